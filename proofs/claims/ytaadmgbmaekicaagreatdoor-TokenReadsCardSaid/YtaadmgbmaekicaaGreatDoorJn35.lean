/-
  The program's own Roles of a token: its closures, the library's DeleteFunc with them, by contract. Written by mk_tkpge.py.
-/
import Derived.Test.YtaadmgbmaekicaaGreatDoorJn34
import Derived.Lib.LazyBuf
import Derived.Test.YtaadmgbmaekicaaGreatDoorJn1
import Derived.WalkLawsBesides
import Derived.Test.YtaadmgbmaekicaaGreatDoorJn12
set_option linter.unusedVariables false
set_option linter.unusedSimpArgs false
namespace Go.Proofs.YtaadmgbmaekicaaGreatDoor.Sh
open Go Go.RowKit

set_option linter.unusedSimpArgs false
set_option linter.unusedVariables false
theorem addr_rowE (g n : Nat) : (⟨g, 0, none⟩ : Addr).add n = ⟨g, n, none⟩ := by
  rcases Nat.eq_zero_or_pos n with e | e
  · subst e; rw [add_zero]
  · rw [add_pos _ n e]; simp
def zersR (n : Nat) : List Value := (Builtin.zeroCells #[.string ⟨#[]⟩, .string ⟨#[]⟩] n).toList
theorem zersR_len (n : Nat) : (zersR n).length = n * 2 := by
  unfold zersR
  rw [Array.length_toList, size_zeroCells]
  rfl
theorem zersR_one (n : Nat) : ∀ v ∈ zersR n, v.oneCell' = true := fun v hv => by
  unfold zersR Builtin.zeroCells at hv
  rw [Array.toList_map, List.mem_map] at hv
  obtain ⟨i, _, rfl⟩ := hv
  have hlt : i % (#[Value.string ⟨#[]⟩, .string ⟨#[]⟩] : Array Value).size < 2 := Nat.mod_lt _ (by decide)
  generalize i % (#[Value.string ⟨#[]⟩, .string ⟨#[]⟩] : Array Value).size = k at hlt ⊢
  match k, hlt with
  | 0, _ | 1, _ => rfl
theorem zero_roleZ : (Tryz.prog.info? 69).map (fun i => (i.zero, i.size, i.bytes)) = some (some (.agg #[.string ⟨#[]⟩, .string ⟨#[]⟩]), 2, 32) := by kernel_rfl
theorem wpList_clearR {ops : Array Oper} {rest : List Oper} {op : Oper} {a : Act} {w : World} {Q : Exit → Act → World → Prop} (hgd : op.guard = none) (x : Operand)
    (ho : op.op = .call { callee := .builtin .clear, args := #[x], argTypes := #[23] }) (b k n c : Nat) (hx : a.eval x = .slice (some ⟨b, k, none⟩) n c) (hn : 0 < n) (ht : w.there b k (n * 2))
    (h : wpList Tryz.prog ops Q rest (a.put op.dst (.tuple #[])) (w.setCells b k (zersR n))) : wpList Tryz.prog ops Q (op :: rest) a w := by
  refine wpList_plain hgd fun _ hK => ?_
  obtain ⟨i0, hi0, hz0, hz1, hz2⟩ := info_parts zero_roleZ
  have hl := zersR_len n
  have hst := run_storeCells_cells (P := Tryz.prog) b k (zersR n) 0 w (fun j hj => by have := (ht j (by omega)).1; simpa using this) (fun j hj => by have := (ht j (by omega)).2; simpa using this) (zersR_one n)
  simp only [Nat.add_zero] at hst
  unfold zersR at hst
  have hv : (zeroValue 69).run Tryz.prog w = .ok (.agg #[.string ⟨#[]⟩, .string ⟨#[]⟩]) w := by simp [zeroValue, typeInfo, hi0, hz0]
  have hrun : (Builtin.clear_ #[23] op.type #[.slice (some ⟨b, k, none⟩) n c]).run Tryz.prog w = .ok (.tuple #[]) (w.setCells b k (zersR n)) := by
    obtain ⟨m, rfl⟩ : ∃ m, n = m + 1 := ⟨n - 1, by omega⟩
    simp [Builtin.clear_, run_underlying Tryz.underlying23, hv, Value.cells, hst, zersR]
  unfold Oper.wp execOp
  simp only [ho, resolve, invoke, builtin, Sem.run_bind, Sem.run_pure, Result.andThen_ok, List.map_toArray, List.map_cons, List.map_nil, hx, hrun]
  exact hK _ _ h
theorem RowE.out {w w' : World} {g B : Nat} {tl : List Value} {l : List Ro} {c n : Nat} (h : RowE encR 69 w g tl l) (hb : Below w.heap.size w w') : RowE encR 69 w' g tl l := h.below hb
/-- What DeleteFunc has done before number j: of the first j those that stay lie in the first a. -/
structure DelAt (p : Ro → Bool) (l cur : List Ro) (a j n : Nat) : Prop where
  len : cur.length = n
  lt : a < j
  top : j ≤ n
  kept : cur.take a = (l.take j).filter fun x => !p x
  rest : ∀ t, j ≤ t → cur[t]? = l[t]?
theorem DelAt.skip {p : Ro → Bool} {l cur : List Ro} {a j n : Nat} (h : DelAt p l cur a j n) {x : Ro} (hx : l[j]? = some x) (hp : p x = true) (hj : j < n) : DelAt p l cur a (j + 1) n :=
  ⟨h.len, by have := h.lt; omega, by omega, by rw [take_snoc_of hx, List.filter_append, h.kept]; simp [hp], fun t ht => h.rest t (by omega)⟩
theorem DelAt.keep {p : Ro → Bool} {l cur : List Ro} {a j n : Nat} (h : DelAt p l cur a j n) {x : Ro} (hx : l[j]? = some x) (hp : p x = false) (hj : j < n) : DelAt p l (cur.set a x) (a + 1) (j + 1) n := by
  have h1 := h.lt
  have h2 := h.len
  refine ⟨by rw [List.length_set]; exact h.len, by omega, by omega, ?_, fun t ht => by rw [List.getElem?_set, if_neg (by omega)]; exact h.rest t (by omega)⟩
  have e : (cur.set a x)[a]? = some x := by rw [List.getElem?_set, if_pos rfl, if_pos (by omega)]
  rw [take_snoc_of e, List.take_set_of_le (Nat.le_refl _), h.kept, take_snoc_of hx, List.filter_append]
  simp [hp]
theorem DelAt.first {p : Ro → Bool} {l : List Ro} {j n : Nat} (hn : l.length = n) (hj : j < n) (hp : atN p l j = true) (hk : ∀ k, k < j → atN p l k = false) : DelAt p l l j (j + 1) n := by
  obtain ⟨x, hx⟩ : ∃ x, l[j]? = some x := ⟨_, List.getElem?_eq_getElem (by omega)⟩
  rw [atN_at hx] at hp
  refine ⟨hn, by omega, by omega, ?_, fun _ _ => rfl⟩
  rw [take_snoc_of hx, List.filter_append]
  have e : (l.take j).filter (fun x => !p x) = l.take j := List.filter_eq_self.2 fun y hy => by
    obtain ⟨i, hi, rfl⟩ := List.getElem_of_mem hy
    rw [List.length_take] at hi
    have := hk i (by omega)
    rw [atN_at (List.getElem?_eq_getElem (by omega))] at this
    rw [List.getElem_take, this]; rfl
  rw [e]
  simp [hp]
theorem filt_none {p : Ro → Bool} {l : List Ro} (h : ∀ j, j < l.length → atN p l j = false) : l.filter (fun x => !p x) = l := List.filter_eq_self.2 fun y hy => by
  obtain ⟨i, hi, rfl⟩ := List.getElem_of_mem hy
  have := h i hi
  rw [atN_at (List.getElem?_eq_getElem hi)] at this
  rw [this]; rfl
set_option maxHeartbeats 16000000 in
set_option maxRecDepth 100000 in
theorem pdel_any {wb w : World} (gt B : Nat) (hB : B ≤ w.heap.size) (hb : Below B wb w) (p : Ro → Bool)
    (hp : ∀ (x : Ro) (W : World), Below B wb W → Calls Tryz.prog 79 #[.agg #[.string x.1, .string x.2], .pointer (some ⟨gt, 0, none⟩)] W fun e W' => e = .returned (.bool (p x)) ∧ Below W.heap.size W W')
    (A : Option Addr) (l : List Ro) (n c : Nat) (hn : l.length = n) (hm : n ≤ 1000000000) (h : Own (E := encR) w B 69 (.slice A n c) l) :
    Calls Tryz.prog 78 #[.slice A n c, .func (.func 79) #[] #[.pointer (some ⟨gt, 0, none⟩)]] w fun e w' =>
      ∃ m, e = .returned (.slice A m c) ∧ (l.filter fun x => !p x).length = m ∧ Own (E := encR) w' B 69 (.slice A m c) (l.filter fun x => !p x) ∧ Below B wb w' := by
  have HI := hid (pidxR2_any gt A l n c hn hm w (own_els h) (atN p l) (fun j x hx W hW => by rw [atN_at hx]; exact hp x W (hb.trans (hW.mono hB))))
  have HN := hid hn
  have HO := hid h
  have HB0 := hid hb
  have HP := hid hp
  have HSZ := hid hB
  clear hn h hb hp hB
  go_enter Tryz.func78, Tryz.ntmps78
  go_wp2_with fail
  refine HI.out.mono ?_
  rintro er w1 ⟨i, rfl, hi, b1⟩
  have HB1 := hid (HB0.out.trans (b1.mono HSZ.out))
  have HO1 := hid (HO.out.below b1)
  have HS1 := hid (Nat.le_trans HSZ.out b1.size)
  clear b1
  rcases hi with ⟨rfl, hnone⟩ | ⟨j0, hj0, rfl, hp0, hk0⟩
  · have HE : Hid (l.filter (fun x => !p x) = l) := hid (filt_none (by rw [HN.out]; exact hnone))
    clear hnone
    go_wp2_with fail
    go_ret
    exact ⟨n, rfl, by rw [HE.out]; exact HN.out, by rw [HE.out]; exact HO1.out, HB1.out⟩
  · have HD0 := hid (DelAt.first HN.out hj0 hp0 hk0)
    obtain ⟨g, tl, rfl, hgB, row, hnc, hcm, hcs⟩ := HO1.out.rowE HN.out (by omega)
    have HR0 := hid row
    have HCS := hid hcs
    have HGB := hid hgB
    have HCM := hid hcm
    have hj1 : ((j0 : Int) == -1) = false := beq_eq_false_iff_ne.2 (by omega)
    have hj2 : ¬ (j0 : Int) = -1 := by omega
    have hc63 : c ≤ 9223372036854775807 := by unfold maxLen at hcm; exact hcm
    clear hp0 hk0 row hcs hgB hcm
    go_wp2_with fail
    go_loopw [5, 6] (fun va vj wr => ∃ (a j : Nat) (cur : List Ro), va = .int .i64 (a : Int) ∧ vj = .int .i64 (j : Int) ∧ a < j ∧ j ≤ n ∧ Hid (DelAt p l cur a j n) ∧ Hid (RowE encR 69 wr g tl cur) ∧ Hid (Below B wb wr) ∧ Hid (B ≤ wr.heap.size)) (fun _ vj _ => n - (intOf vj).toNat)
    case atStart => exact ⟨j0, j0 + 1, l, rfl, by go_num, by omega, by omega, HD0, HR0, HB1, HS1⟩
    case round =>
      clear HD0 HR0 HB1 HS1 HO1 hj1 hj2
      obtain ⟨wj, hwj⟩ : ∃ x, x = wr := ⟨_, rfl⟩
      subst hwj
      obtain ⟨a, j, cur, rfl, rfl, haj, hjn, HD, HR, HB, HS⟩ := hrel
      have ha0 : (0 : Int) ≤ (a : Int) := Int.natCast_nonneg _
      have hk0 : (0 : Int) ≤ (j : Int) := Int.natCast_nonneg _
      by_cases hlt : j < n
      · have hk1 : (j : Int) < (n : Int) := by omega
        have ha1 : (a : Int) < (n : Int) := by omega
        obtain ⟨x, hx⟩ : ∃ x, l[j]? = some x := ⟨_, List.getElem?_eq_getElem (by rw [HN.out]; exact hlt)⟩
        have HXJ := hid hx
        have hcx : cur[j]? = some x := (HD.out.rest j (Nat.le_refl _)).trans hx
        have aj := addr_rowE g (j * 2)
        have aa := addr_rowE g (a * 2)
        have z0 : wj.cell? ⟨g, j * 2, none⟩ = some (.string x.1) := HR.out.cell hcx (i := 0) (by decide) rfl
        have z1 : wj.cell? ⟨g, j * 2 + 1, none⟩ = some (.string x.2) := HR.out.cell hcx (i := 1) (by decide) rfl
        have HPX := hid (HP.out x)
        obtain ⟨b, hbb⟩ : ∃ b, p x = b := ⟨_, rfl⟩
        rw [hbb] at HPX
        have HPB := hid hbb
        obtain ⟨x0, x1⟩ := x
        simp only at z0 z1 HPX
        obtain ⟨w0, hw0⟩ : ∃ w0, w0 = wj.alloc (.cells #[.string x0, .string x1] 69) := ⟨_, rfl⟩
        have HV0 : Hid (RoleAt w0 wj.heap.size x0 x1) := hid (by rw [hw0]; exact RoleAt.new wj x0 x1)
        have hb0 : Below wj.heap.size wj w0 := by rw [hw0]; exact below_box wj x0 x1
        have HBW0 := hid (HB.out.trans (hb0.mono HS.out))
        have HR0 := hid (HR.out.below hb0)
        have HS0 := hid (Nat.le_trans HS.out hb0.size)
        have HC := hid (HPX.out w0 HBW0.out)
        have HW0 := hid hw0
        have HGJ : Hid (g < wj.heap.size) := hid HR.out.lt
        clear hx hcx hbb hw0 hb0 HPX
        go_upto_region 8 with fail
        rw [← HW0.out]
        have d0 := HV0.out.c0
        have d1 := HV0.out.c1
        clear z0 z1
        go_wp2_with fail
        refine HC.out.mono ?_
        rintro er w2 ⟨rfl, b2⟩
        have HV2 := hid (HV0.out.kept b2)
        have HR2 := hid (HR0.out.below b2)
        have HB2 := hid (HBW0.out.trans (b2.mono HS0.out))
        have HS2 := hid (Nat.le_trans HS0.out b2.size)
        clear b2 d0 d1 HV0 HR0 HBW0 HS0 HW0 HC
        cases b
        · have e0 := HV2.out.c0
          have e1 := HV2.out.c1
          obtain ⟨y, hy⟩ : ∃ y, cur[a]? = some y := ⟨_, List.getElem?_eq_getElem (by rw [HD.out.len]; omega)⟩
          have o0 : w2.cell? ⟨g, a * 2, none⟩ = some (.string y.1) := HR2.out.cell hy (i := 0) (by decide) rfl
          have o1 : w2.cell? ⟨g, a * 2 + 1, none⟩ = some (.string y.2) := HR2.out.cell hy (i := 1) (by decide) rfl
          have f0 := HR2.out.f (a * 2)
          have f1 := HR2.out.f (a * 2 + 1)
          have HPUT : Hid (RowE encR 69 ((w2.setCell ⟨g, a * 2, none⟩ (.string x0)).setCell ⟨g, a * 2 + 1, none⟩ (.string x1)) g tl (cur.set a (x0, x1))) := hid (HR2.out.put (by rw [HD.out.len]; omega) (x0, x1))
          have HBP : Hid (Below B wb ((w2.setCell ⟨g, a * 2, none⟩ (.string x0)).setCell ⟨g, a * 2 + 1, none⟩ (.string x1))) := hid ((HB2.out.setCell (p := ⟨g, a * 2, none⟩) HGB.out _).setCell (p := ⟨g, a * 2 + 1, none⟩) HGB.out _)
          have HSP : Hid (B ≤ ((w2.setCell ⟨g, a * 2, none⟩ (.string x0)).setCell ⟨g, a * 2 + 1, none⟩ (.string x1)).heap.size) := hid (by rw [World.size_setCell, World.size_setCell]; exact HS2.out)
          have HDK := hid (HD.out.keep HXJ.out HPB.out hlt)
          clear hy
          go_wp2_with fail
          go_roundw
          case rel => exact ⟨a + 1, j + 1, _, by go_num, by go_num, by omega, by omega, HDK, HPUT, HBP, HSP⟩
          case measure => simp [intOf]; omega
        · have HDS := hid (HD.out.skip HXJ.out HPB.out hlt)
          go_wp2_with fail
          go_roundw
          case rel => exact ⟨a, j + 1, cur, rfl, by go_num, by omega, by omega, HDS, HR2, HB2, HS2⟩
          case measure => simp [intOf]; omega
      · obtain rfl : j = n := by omega
        have hk1 : ¬ (j : Int) < (j : Int) := by omega
        obtain ⟨rr, hrr⟩ : ∃ rr, j - a = rr := ⟨_, rfl⟩
        have hca : ¬ c = a := by omega
        have ha1 : (a : Int) ≤ (j : Int) := by omega
        have ha2 : (a : Int) ≤ (c : Int) := by omega
        have aa := addr_rowE g (a * 2)
        have HRR := hid hrr
        have HTH : Hid (wj.there g (a * 2) (rr * 2)) := hid (fun t ht => ⟨by
          have e : a * 2 + t = (a + t / 2) * 2 + t % 2 := by omega
          have hl : a + t / 2 < cur.length := by rw [HD.out.len]; omega
          have h9 : t % 2 = 0 ∨ t % 2 = 1 := by omega
          have h8 := List.getElem?_eq_getElem hl
          rcases h9 with h9 | h9
          · have q : wj.cell? ⟨g, (a + t / 2) * 2 + 0, none⟩ = some (.string cur[a + t / 2].1) := HR.out.cell h8 (by decide) rfl
            rw [e, h9, q]; rfl
          · have q : wj.cell? ⟨g, (a + t / 2) * 2 + 1, none⟩ = some (.string cur[a + t / 2].2) := HR.out.cell h8 (by decide) rfl
            rw [e, h9, q]; rfl, HR.out.f _⟩)
        have HFIN : Hid (RowE encR 69 (wj.setCells g (a * 2) (zersR rr)) g (zersR rr ++ tl) (cur.take a)) := hid (HR.out.cut (by rw [HD.out.len]; omega) (zersR rr) (by rw [zersR_len, HD.out.len]; show rr * 2 = (j - a) * 2; omega))
        have HBF : Hid (Below B wb (wj.setCells g (a * 2) (zersR rr))) := hid (below_setCells HGB.out _ _ _ HB.out)
        have HK : Hid (cur.take a = l.filter fun x => !p x) := hid (by rw [HD.out.kept, List.take_of_length_le (by rw [HN.out]; exact Nat.le_refl _)])
        have HLA : Hid ((cur.take a).length = a) := hid (by rw [List.length_take, HD.out.len]; omega)
        go_wp2_with (with_reducible show wpList _ _ _ (Oper.mk none (Op.call _) _ _ _ _ :: _) _ _; refine wpList_clearR rfl (.tmp 38) rfl g (a * 2) rr (c - a) rfl (by omega) HTH.out ?_)
        go_ret
        refine ⟨a, rfl, by rw [← HK.out]; exact HLA.out, ?_, HBF.out⟩
        rw [← HK.out]
        exact HFIN.out.own HGB.out HLA.out (by omega) HCM.out (by rw [List.length_append, zersR_len]; have h1 := HCS.out; have h2 : encR.k = 2 := rfl; rw [h2] at h1 ⊢; omega)
end Go.Proofs.YtaadmgbmaekicaaGreatDoor.Sh
/-
  Ticks, pure: a number as a tick, how a clock goes on, how long the slowest one takes.
-/
namespace Go.Proofs.YtaadmgbmaekicaaGreatDoor.Sh
open Go Go.RowKit

def tk (n : Int) : Int := if n < 0 then 0 else if n > 1099511627776 then 1099511627776 else n
theorem tk_b (n : Int) : 0 ≤ tk n ∧ tk n ≤ 1099511627776 := by unfold tk; split <;> (try split) <;> omega
theorem tk_id {n : Int} (h0 : 0 ≤ n) (h1 : n ≤ 1099511627776) : tk n = n := by unfold tk; split <;> (try split) <;> omega
theorem tk_mono {a b : Int} (h : a ≤ b) : tk a ≤ tk b := by unfold tk; repeat' split <;> omega
def addT (a b : Int) : Int := tk (tk a + tk b)
theorem addT_b (a b : Int) : 0 ≤ addT a b ∧ addT a b ≤ 1099511627776 := tk_b _
theorem addT_comm (a b : Int) : addT a b = addT b a := by unfold addT; rw [Int.add_comm]
def cl (n a b : Int) : Int := if n < a then a else if n > b then b else n
theorem tk_cl (n : Int) : tk n = cl n 0 1099511627776 := rfl
theorem cl_b {a b : Int} (h : a ≤ b) (n : Int) : a ≤ cl n a b ∧ cl n a b ≤ b := by unfold cl; split <;> (try split) <;> omega
def goesT (n s : Int) : Int := cl n 0 64 + cl s (-(cl n 0 64 / 8)) (cl n 0 64 / 8)
def boundT (n : Int) : Int := (tk n * 8 + 6) / 7
theorem boundT_b (n : Int) : 0 ≤ boundT n ∧ boundT n ≤ 1256584717460 := by have := tk_b n; unfold boundT; omega
/-- Each part is at least seven eighths. -/
theorem goesT_low (n s : Int) : 7 * cl n 0 64 ≤ 8 * goesT n s ∧ goesT n s ≤ 72 ∧ 0 ≤ goesT n s := by
  have h := cl_b (a := 0) (b := 64) (by omega) n
  unfold goesT
  generalize cl n 0 64 = m at h ⊢
  have h2 := cl_b (a := -(m / 8)) (b := m / 8) (by omega) s
  omega
def leastT (l : List Int) : Int := l.foldl (fun o x => min o (tk x)) 1099511627776
end Go.Proofs.YtaadmgbmaekicaaGreatDoor.Sh
/-
  The program's ticks and the document's own, by contract.
-/
namespace Go.Proofs.YtaadmgbmaekicaaGreatDoor.Sh
open Go Go.RowKit
set_option linter.unusedVariables false
set_option linter.unusedSimpArgs false
theorem lim_any (n a b : Int) (w : World) (hab : a ≤ b) :
    Calls Tryz.prog 131 #[.int .i64 n, .int .i64 a, .int .i64 b] w fun e w' => e = .returned (.int .i64 (cl n a b)) ∧ w = w' := by
  have HA := hid hab
  clear hab
  go_enter Tryz.func131, Tryz.ntmps131
  go_wp2
  all_goals
    go_ret
    refine ⟨?_, rfl⟩
    refine ret_int (?_ : _ = cl n a b)
    have := HA.out
    unfold cl
    split <;> (try split) <;> omega
theorem tick_any (n : Int) (w : World) :
    Calls Tryz.prog 118 #[.int .i64 n] w fun e w' => e = .returned (.int .i64 (tk n)) ∧ w = w' := by
  have H := hid (lim_any n 0 1099511627776 w (by omega))
  go_enter Tryz.func118, Tryz.ntmps118
  go_wp2_with fail
  refine H.out.mono ?_
  rintro er w1 ⟨rfl, rfl⟩
  go_wp2_with fail
  go_ret
  exact ⟨rfl, rfl⟩
theorem over_any (a b : Int) (w : World) :
    Calls Tryz.prog 84 #[.int .i64 a, .int .i64 b] w fun e w' => e = .returned (.bool (decide (tk b ≤ tk a))) ∧ w = w' := by
  have HA := hid (tick_any a w)
  have HB := hid (tick_any b w)
  generalize tk a = x at *
  generalize tk b = y at *
  go_enter Tryz.func84, Tryz.ntmps84
  go_wp2_with fail
  refine HA.out.mono ?_
  rintro er w1 ⟨rfl, rfl⟩
  go_wp2_with fail
  refine HB.out.mono ?_
  rintro er w1 ⟨rfl, rfl⟩
  go_wp2_with fail
  go_ret
  exact ⟨rfl, rfl⟩
/-! ### the document's own -/
end Go.Proofs.YtaadmgbmaekicaaGreatDoor.Sh
/-
  The least of some ticks: the program's Least, by contract.
-/
namespace Go.Proofs.YtaadmgbmaekicaaGreatDoor.Sh
open Go Go.RowKit
set_option linter.unusedVariables false
set_option linter.unusedSimpArgs false
/-- A: where the numbers l lie, below block B. Of none nothing is asked. -/
def IntAt (w : World) (B : Nat) (A : Option Addr) (l : List Int) : Prop :=
  0 < l.length → ∃ ad, A = some ad ∧ ad.block < B ∧ ∀ j x, l[j]? = some x → w.cell? (ad.add j) = some (.int .i64 x)
theorem IntAt.head {w : World} {B : Nat} {A : Option Addr} {l : List Int} (k : Nat) (h : IntAt w B A l) : IntAt w B A (l.take k) := fun hn => by
  simp only [List.length_take] at hn
  obtain ⟨ad, e, hb, hc⟩ := h (by omega)
  refine ⟨ad, e, hb, fun j x hx => hc j x ?_⟩
  rw [List.getElem?_take] at hx
  split at hx
  · exact hx
  · cases hx
theorem leastT_snoc (l : List Int) (x : Int) : leastT (l ++ [x]) = min (leastT l) (tk x) := by unfold leastT; rw [List.foldl_append]; rfl
set_option maxHeartbeats 2000000 in
theorem least_any (A : Option Addr) (l : List Int) (n c : Nat) (hn : l.length = n) (hm : n ≤ 40) (w : World) (h : IntAt w w.heap.size A l) :
    Calls Tryz.prog 85 #[.slice A n c] w fun e w' => e = .returned (.int .i64 (leastT l)) ∧ w = w' := by
  have HN := hid hn
  have HA := hid h
  clear hn h
  go_enter Tryz.func85, Tryz.ntmps85
  go_wp2_with fail
  go_loopw [3, 8] (fun v i wr => ∃ (j : Nat) (z : Int), v = .int .i64 z ∧ i = .int .i64 (j : Int) ∧ j ≤ n ∧ Hid (z = leastT (l.take j)) ∧ w = wr) (fun _ i _ => n - (intOf i).toNat)
  case atStart => exact ⟨0, 1099511627776, rfl, rfl, Nat.zero_le _, hid (by simp [leastT]), rfl⟩
  case round =>
    obtain ⟨j, z, rfl, rfl, hj, HZ, rfl⟩ := hrel
    by_cases hlt : j < n
    · obtain ⟨x, hx⟩ : ∃ x, l[j]? = some x := ⟨_, List.getElem?_eq_getElem (by rw [HN.out]; exact hlt)⟩
      obtain ⟨ad, rfl, hb, hc⟩ := HA.out (by rw [HN.out]; omega)
      have a0 := hc j x hx
      have HNX : Hid (leastT (l.take (j + 1)) = min z (tk x)) := hid (by rw [take_snoc_of hx, leastT_snoc, HZ.out])
      have HT := hid (tick_any x w)
      have hj0 : (0 : Int) ≤ (j : Int) := Int.natCast_nonneg _
      have hj1 : (j : Int) < (n : Int) := by omega
      generalize tk x = t at *
      clear hx hb hc
      go_wp2_with fail
      refine HT.out.mono ?_
      rintro er w1 ⟨rfl, rfl⟩
      by_cases hm : z ≤ t
      · go_wp2_with fail
        go_roundw
        case rel => exact ⟨j + 1, z, rfl, by go_num, by omega, hid (by rw [HNX.out]; omega), by first | rfl | trivial⟩
        case measure => simp [intOf]; omega
      · go_wp2_with fail
        go_roundw
        case rel => exact ⟨j + 1, t, rfl, by go_num, by omega, hid (by rw [HNX.out]; omega), by first | rfl | trivial⟩
        case measure => simp [intOf]; omega
    · obtain rfl : j = n := by omega
      have HE : Hid (z = leastT l) := hid (by rw [HZ.out, List.take_of_length_le (by rw [HN.out]; exact Nat.le_refl _)])
      go_wp2_with fail
      go_ret
      exact ⟨ret_int HE.out, rfl⟩
end Go.Proofs.YtaadmgbmaekicaaGreatDoor.Sh
/-
  Numbers as elements of rows.
-/
namespace Go.Proofs.YtaadmgbmaekicaaGreatDoor.Sh
open Go Go.RowKit

set_option linter.unusedSimpArgs false
set_option linter.unusedVariables false
def encN : Enc Int := ⟨1, fun n => [.int .i64 n], by omega, fun _ => rfl, fun x u hu => by simp at hu; rcases hu with rfl; rfl⟩
theorem slN : SlN Tryz.prog 106 3 1 8 := by
  obtain ⟨i0, hi0, hz0, hz1, hz2⟩ := info_parts (P := Tryz.prog) (e := 3) (z := .int .i64 0) (size := 1) (bytes := 8) (by kernel_rfl)
  exact ⟨Tryz.underlying106, ⟨i0, _, hi0, hz0, hz1, hz2, rfl⟩, by omega⟩
theorem Els.num {w : World} {B : Nat} {A : Option Addr} {l : List Int} {j : Nat} {n : Int} (h : Els encN w B A l) (hj : l[j]? = some n) : ∃ ad, A = some ad ∧ ad.block < B ∧ w.cell? (ad.add j) = some (.int .i64 n) := by
  obtain ⟨ad, aj, e, hb, ea, _, h0, _⟩ := h.get hj
  refine ⟨ad, e, hb, ?_⟩
  have := h0 _ rfl
  rw [← ea, show encN.k = 1 from rfl, Nat.mul_one] at this
  exact this
end Go.Proofs.YtaadmgbmaekicaaGreatDoor.Sh
