/-
  The document's own Counts.
-/
import Derived.Test.YtcligogmmjdobaaGreatDoorJp39
import Derived.Test.YtcligogmmjdobaaGreatDoorJp38
import Derived.Test.YtcligogmmjdobaaGreatDoorJp34
import Derived.Test.YtcligogmmjdobaaGreatDoorJp6
import Derived.Test.YtcligogmmjdobaaGreatDoorJp37
set_option linter.unusedVariables false
set_option linter.unusedSimpArgs false
namespace Go.Proofs.YtcligogmmjdobaaGreatDoor.Sh
open Go Go.RowKit

set_option maxHeartbeats 1000000 in
theorem refCounts_any (A : Option Addr) (all : List Crd) (n c : Nat) (hn : all.length = n) (hm : n ≤ 100000000) (w : World) (h : Crs w w.heap.size A all) :
    Calls Tryz.prog 18 #[.slice A n c] w fun e w' => ∃ A' n' c' out, e = .returned (.slice A' n' c') ∧ n' ≤ n ∧ OwnC w' w.heap.size (.slice A' n' c') n' out ∧ CountsOf out all ∧ Below w.heap.size w w' := by
  have HN := hid hn
  clear hn
  go_enter Tryz.func18, Tryz.ntmps18
  go_wp2
  go_loopw [3, 4] (fun o i wr => ∃ (Ao : Option Addr) (no co k : Nat) (out : List Crd), o = .slice Ao no co ∧ i = .int .i64 (k : Int) ∧ k ≤ n ∧ no ≤ k ∧ Hid (OwnC wr w.heap.size (.slice Ao no co) no out) ∧ Hid (Kept out all k) ∧ Hid (Below w.heap.size w wr)) (fun _ i _ => n - (intOf i).toNat)
  case atStart => exact ⟨none, 0, 0, 0, [], rfl, rfl, by omega, by omega, hid (OwnC.nil _ _), hid (kept_start all), hid (Below.refl _ _)⟩
  case round =>
    obtain ⟨Ao, no, co, k, out, rfl, rfl, hk, hno, HOW, HKE, HBEL⟩ := hrel
    obtain ⟨wo, hwo⟩ : ∃ x, x = wr := ⟨_, rfl⟩
    subst hwo
    by_cases hlt : k < n
    · obtain ⟨⟨d1, q1, nm, kd, wh, ao, an, bo, bn⟩, hck⟩ : ∃ x, all[k]? = some x := ⟨_, List.getElem?_eq_getElem (by rw [HN.out]; exact hlt)⟩
      have YC := h.below HBEL.out
      obtain ⟨ad, ak, rfl, hadb, ek, hkb, a0, a1, a2, a3, a4, a5, a6, a7, a8⟩ := YC.get hck
      have hkl : (k : Int) < (n : Int) := by omega
      have hk0 : (0 : Int) ≤ (k : Int) := Int.natCast_nonneg _
      obtain ⟨b, hb⟩ : ∃ b, mayC ⟨d1, q1, nm, kd, wh, ao, an, bo, bn⟩ = b := ⟨_, rfl⟩
      have HM := hid (fun w => hb ▸ refMayC_any ⟨d1, q1, nm, kd, wh, ao, an, bo, bn⟩ w)
      have HBM := hid hb
      have HCK := hid hck
      unfold Crd.cells at HM
      simp only at HM a0 a1 a2 a3 a4 a5 a6 a7 a8
      have HY := hid YC
      have HKB := hid hkb
      have HAB : Hid (ad.block < wo.heap.size) := hid (Nat.lt_of_lt_of_le hadb HBEL.out.size)
      clear hb hck YC hkb hadb
      go_wp2_with fail
      refine (HM.out _).mono ?_
      rintro er w2 ⟨rfl, bb⟩
      have HO2 := hid (HOW.out.below bb)
      have HB2 := hid (HBEL.out.trans (bb.mono HBEL.out.size))
      have HY2 := hid (HY.out.below (bb.mono HBEL.out.size))
      have HK01 := hid (fun W (hW : Below wo.heap.size wo W) => (⟨(hW.cell (by rw [HKB.out]; exact HAB.out)).trans a0, (hW.cell (p := ⟨ak.block, ak.off + 1, none⟩) (by show ak.block < _; rw [HKB.out]; exact HAB.out)).trans a1, (hW.cell (p := ⟨ak.block, ak.off + 2, none⟩) (by show ak.block < _; rw [HKB.out]; exact HAB.out)).trans a2,
        (hW.cell (p := ⟨ak.block, ak.off + 3, none⟩) (by show ak.block < _; rw [HKB.out]; exact HAB.out)).trans a3, (hW.cell (p := ⟨ak.block, ak.off + 4, none⟩) (by show ak.block < _; rw [HKB.out]; exact HAB.out)).trans a4, (hW.cell (p := ⟨ak.block, ak.off + 5, none⟩) (by show ak.block < _; rw [HKB.out]; exact HAB.out)).trans a5,
        (hW.cell (p := ⟨ak.block, ak.off + 6, none⟩) (by show ak.block < _; rw [HKB.out]; exact HAB.out)).trans a6, (hW.cell (p := ⟨ak.block, ak.off + 7, none⟩) (by show ak.block < _; rw [HKB.out]; exact HAB.out)).trans a7, (hW.cell (p := ⟨ak.block, ak.off + 8, none⟩) (by show ak.block < _; rw [HKB.out]; exact HAB.out)).trans a8⟩ :
        W.cell? ak = some (.int .i64 d1) ∧ W.cell? ⟨ak.block, ak.off + 1, none⟩ = some (.int .i64 q1) ∧ W.cell? ⟨ak.block, ak.off + 2, none⟩ = some (.string nm) ∧ W.cell? ⟨ak.block, ak.off + 3, none⟩ = some (.int .i64 kd) ∧ W.cell? ⟨ak.block, ak.off + 4, none⟩ = some (.string wh) ∧
        W.cell? ⟨ak.block, ak.off + 5, none⟩ = some (.string ao) ∧ W.cell? ⟨ak.block, ak.off + 6, none⟩ = some (.string an) ∧ W.cell? ⟨ak.block, ak.off + 7, none⟩ = some (.string bo) ∧ W.cell? ⟨ak.block, ak.off + 8, none⟩ = some (.string bn)))
      have HBB := hid bb
      clear bb a0 a1 a2 a3 a4 a5 a6 a7 a8
      go_wp2
      go_loopw [6, 7] (fun x i wq => ∃ (t : Bool) (j : Nat), x = .bool t ∧ i = .int .i64 (j : Int) ∧ j ≤ no ∧ Hid (t = true ↔ ∃ y ∈ out.take j, y.d = d1 ∧ y.q = q1) ∧ Hid (∃ q, wq = w2.drewN q)) (fun _ i _ => no - (intOf i).toNat)
      case atStart => exact ⟨false, 0, rfl, rfl, by omega, hid (by simp), hid ⟨0, rfl⟩⟩
      case round =>
        obtain ⟨t, j, rfl, rfl, hj, HT, HW⟩ := hrel
        by_cases hlj : j < no
        · obtain ⟨⟨d2, q2, nm2, kd2, wh2, ao2, an2, bo2, bn2⟩, hoj⟩ : ∃ x, out[j]? = some x := ⟨_, List.getElem?_eq_getElem (by rw [HO2.out.len]; exact hlj)⟩
          have hjl : (j : Int) < (no : Int) := by omega
          have hj0 : (0 : Int) ≤ (j : Int) := Int.natCast_nonneg _
          have hwr : Below w2.heap.size w2 wr := by obtain ⟨q, rfl⟩ := HW.out; exact below_drewN (Below.refl _ _) q
          obtain ⟨bd, bj, rfl, -, eb, -, b0, b1, -⟩ := (HO2.out.crs.below hwr).get hoj
          obtain ⟨a0, a1, -⟩ := HK01.out wr (HBB.out.trans (hwr.mono HBB.out.size))
          have HT2 : Hid ((∃ y ∈ out.take (j + 1), y.d = d1 ∧ y.q = q1) ↔ (t = true ∨ (d2 = d1 ∧ q2 = q1))) := hid (by
            rw [take_snoc_of hoj]
            constructor
            · rintro ⟨y, hy, h1⟩
              rcases List.mem_append.1 hy with h2 | h2
              · exact .inl (HT.out.2 ⟨y, h2, h1⟩)
              · rw [List.mem_singleton.1 h2] at h1; exact .inr h1
            · rintro (h1 | h1)
              · obtain ⟨y, hy, h2⟩ := HT.out.1 h1
                exact ⟨y, List.mem_append.2 (.inl hy), h2⟩
              · exact ⟨_, List.mem_append.2 (.inr (List.mem_singleton.2 rfl)), h1⟩)
          clear hoj hwr
          cases t with
          | true =>
            go_wp2_with fail
            go_quiet (fail)
            go_wp2
            go_roundw
            case rel => exact ⟨true, j + 1, rfl, by go_num, by omega, hid (by rw [HT2.out]; simp), by
              obtain ⟨q, rfl⟩ := HW.out
              exact hid ⟨q + nq, World.drewN_drewN _ _ _⟩⟩
            case measure => simp [intOf]; omega
          | false =>
            by_cases hd : d2 = d1
            · subst hd
              by_cases hq : q2 = q1
              · subst hq
                go_wp2_with fail
                go_quiet (fail)
                go_wp2
                go_roundw
                case rel => exact ⟨true, j + 1, rfl, by go_num, by omega, hid (by rw [HT2.out]; simp), by
                  obtain ⟨q, rfl⟩ := HW.out
                  exact hid ⟨q + nq, World.drewN_drewN _ _ _⟩⟩
                case measure => simp [intOf]; omega
              · have hqb : (q2 == q1) = false := beq_eq_false_iff_ne.2 hq
                have HQ := hid hq
                go_wp2_with fail
                go_quiet (fail)
                go_wp2
                go_roundw
                case rel => exact ⟨false, j + 1, rfl, by go_num, by omega, hid (by rw [HT2.out]; simp [HQ.out]), by
                  obtain ⟨q, rfl⟩ := HW.out
                  exact hid ⟨q + nq, World.drewN_drewN _ _ _⟩⟩
                case measure => simp [intOf]; omega
            · have hdb : (d2 == d1) = false := beq_eq_false_iff_ne.2 hd
              have HQ := hid hd
              go_wp2_with fail
              go_quiet (fail)
              go_wp2
              go_roundw
              case rel => exact ⟨false, j + 1, rfl, by go_num, by omega, hid (by rw [HT2.out]; simp [HQ.out]), by
                obtain ⟨q, rfl⟩ := HW.out
                exact hid ⟨q + nq, World.drewN_drewN _ _ _⟩⟩
              case measure => simp [intOf]; omega
        · obtain rfl : no = j := by omega
          have hlen := HO2.out.len
          have HT2 : Hid (t = true ↔ ∃ y ∈ out, y.d = d1 ∧ y.q = q1) := hid (by have := HT.out; rwa [List.take_of_length_le (by omega)] at this)
          have hwr : Below w2.heap.size w2 wr := by obtain ⟨q, rfl⟩ := HW.out; exact below_drewN (Below.refl _ _) q
          have o3 := HO2.out.below hwr
          have b3 := HB2.out.trans (hwr.mono HB2.out.size)
          obtain ⟨a0, a1, a2, a3, a4, a5, a6, a7, a8⟩ := HK01.out wr (HBB.out.trans (hwr.mono HBB.out.size))
          clear hlen hwr HT
          cases b with
          | false =>
            have HK2 := hid (kept_skip HKE.out HCK.out (.inl HBM.out))
            have HO3 := hid o3
            have HB3 := hid b3
            clear o3 b3
            go_wp2
            go_roundw
            case rel => exact ⟨Ao, no, co, k + 1, out, rfl, by go_num, by omega, by omega, HO3, HK2, HB3⟩
            case measure => simp [intOf]; omega
          | true =>
            cases t with
            | true =>
              have HK2 := hid (kept_skip HKE.out HCK.out (.inr (HT2.out.1 rfl)))
              have HO3 := hid o3
              have HB3 := hid b3
              clear o3 b3
              go_wp2
              go_roundw
              case rel => exact ⟨Ao, no, co, k + 1, out, rfl, by go_num, by omega, by omega, HO3, HK2, HB3⟩
              case measure => simp [intOf]; omega
            | false =>
              have HK2 := hid (kept_take HKE.out HCK.out HBM.out (fun x hx he => by have := HT2.out.2 ⟨x, hx, he⟩; cases this))
              have Q1 : Hid (no + 1 ≤ 1000000000000) := hid (by omega)
              go_wp2_with ((at_builtin; refine wpList_appC rfl (.tmp 44) (.tmp 49) rfl w.heap.size (.slice Ao no co) no out (OwnC.alloc o3 _) rfl (some ⟨wr.heap.size, 0, none⟩) 1 1 [⟨d1, q1, nm, kd, wh, ao, an, bo, bn⟩] rfl rfl (reads_cr wr _ _ _) Q1.out (le_alloc b3.size _) w (b3.alloc b3.size _) (no + 1) rfl ?_; intro A4 c4 w4 o4 g4 b4 h4; have HO4 := hid o4; have HB4 := hid b4; clear o3 b3 o4 b4 g4 h4))
              go_roundw
              case rel => exact ⟨A4, no + 1, c4, k + 1, _, rfl, by go_num, by omega, by omega, HO4, HK2, HB4⟩
              case measure => simp [intOf]; omega
    · obtain rfl : n = k := by omega
      have HS := hid (refSorted_any Ao out no co HOW.out.len (by obtain ⟨_, _, e, h1, _⟩ := HOW.out.slice; injection e with _ _ e; omega) (by obtain ⟨_, _, e, _, h1⟩ := HOW.out.slice; injection e with _ _ e; omega) (by omega) wo HOW.out.crs)
      go_wp2_with fail
      refine HS.out.mono ?_
      rintro er w2 ⟨A2, c2, out2, rfl, o2, s2, bb⟩
      have HR : Hid (CountsOf out2 all) := hid (kept_end (by rw [HN.out]; exact HKE.out) s2)
      have HO2 := hid (o2.mono HBEL.out.size)
      have HB2 := hid (HBEL.out.trans (bb.mono HBEL.out.size))
      clear o2 s2 bb
      go_wp2
      go_ret
      exact ⟨A2, no, c2, out2, rfl, hno, HO2.out, HR.out, HB2.out⟩
end Go.Proofs.YtcligogmmjdobaaGreatDoor.Sh
/-
  The statements' own few.
-/
namespace Go.Proofs.YtcligogmmjdobaaGreatDoor.Sh
open Go Go.RowKit

set_option linter.unusedSimpArgs false
set_option linter.unusedVariables false
theorem few_any (A : Option Addr) (l : List Crd) (n k : Nat) (hn : l.length = n) (hk : n ≤ k) (hk2 : k ≤ 9223372036854775807) (w : World) (h : Crs w w.heap.size A l) :
    Calls Tryz.prog 8 #[.slice A n k] w fun e w' => ∃ m : Nat, e = .returned (.slice A m k) ∧ ∃ l' : List Crd, l'.length = m ∧ m ≤ 14 ∧ m ≤ k ∧ Crs w w.heap.size A l' ∧ w' = w := by
  by_cases h14 : 14 < n
  · have hN : (l.take 14).length = 14 := by rw [List.length_take]; omega
    have HY := hid (h.head (hi := 14))
    have h14' : (14 : Int) < (n : Int) := by omega
    have h14k : 14 ≤ k := by omega
    have HN := hid hN
    clear h hn hN
    go_enter Tryz.func8, Tryz.ntmps8
    go_wp2_with fail
    go_ret
    exact ⟨14, rfl, l.take 14, HN.out, Nat.le_refl _, h14k, HY.out, rfl⟩
  · have h14' : ¬ (14 : Int) < (n : Int) := by omega
    have HN := hid hn
    have HY := hid h
    clear h hn
    go_enter Tryz.func8, Tryz.ntmps8
    go_wp2_with fail
    go_ret
    exact ⟨n, rfl, l, HN.out, by omega, hk, HY.out, rfl⟩
end Go.Proofs.YtcligogmmjdobaaGreatDoor.Sh
/-
  The document's own rules: what one credential brings about by some pairs; how far that goes. Nothing of the program's own text.
-/
namespace Go.Proofs.YtcligogmmjdobaaGreatDoor.Sh
open Go Go.RowKit

set_option linter.unusedVariables false
set_option linter.unusedSimpArgs false
/-- What a credential brings about by some pairs. -/
def Brg (c : Crd) (l : List Pr) (p : Pr) : Prop :=
  p.1 = roleOf c ∧ ((c.kd = 1 ∧ p.2 = c.wh) ∨ (c.kd = 2 ∧ ((c.ao, c.an), p.2) ∈ l) ∨ (c.kd = 3 ∧ ∃ y, (firstOf c, y) ∈ l ∧ isD y ∧ ((y, c.bn), p.2) ∈ l) ∨ (c.kd = 4 ∧ ((c.ao, c.an), p.2) ∈ l ∧ ((c.bo, c.bn), p.2) ∈ l))
/-- A round: the pairs that were there, and what all bring about by them, each once. -/
def Rnd (cs : List Crd) (l out : List Pr) : Prop := ∃ new, out = l ++ new ∧ new.Nodup ∧ (∀ p ∈ new, p ∉ l) ∧ ∀ p, p ∈ out ↔ p ∈ l ∨ ∃ c ∈ cs, Brg c l p
/-- No rule brings more. -/
def Clos (cs : List Crd) (l : List Pr) : Prop := ∀ p, (∃ c ∈ cs, Brg c l p) → p ∈ l
theorem Rnd.len {cs : List Crd} {l out : List Pr} (h : Rnd cs l out) : l.length ≤ out.length := by
  obtain ⟨new, rfl, -⟩ := h
  rw [List.length_append]; omega
theorem Rnd.same {cs : List Crd} {l out : List Pr} (h : Rnd cs l out) (he : out.length = l.length) : out = l ∧ Clos cs l := by
  obtain ⟨new, rfl, -, -, hm⟩ := h
  rw [List.length_append] at he
  have : new = [] := List.eq_nil_of_length_eq_zero (by omega)
  subst this
  rw [List.append_nil] at hm ⊢
  exact ⟨rfl, fun p hp => (hm p).2 (.inr hp)⟩
theorem Rnd.clos {cs : List Crd} {l out : List Pr} (h : Rnd cs l out) (hc : Clos cs l) : out.length = l.length := by
  obtain ⟨new, rfl, hn, hd, hm⟩ := h
  cases new with
  | nil => rw [List.append_nil]
  | cons x t =>
    rcases (hm x).1 (by simp) with h1 | h1
    · exact absurd h1 (hd x (by simp))
    · exact absurd (hc x h1) (hd x (by simp))
/-- What is closed has all that is said. -/
theorem clos_imp {cs : List Crd} {l : List Pr} (h : Clos cs l) {p : Pr} (hp : Imp (· ∈ cs) p) : p ∈ l := by
  induction hp with
  | mem hs hk => exact h _ ⟨_, hs, rfl, .inl ⟨hk, rfl⟩⟩
  | inc hs hk _ ih => exact h _ ⟨_, hs, rfl, .inr (.inl ⟨hk, ih⟩)⟩
  | lnk hs hk _ hd _ ih1 ih2 => exact h _ ⟨_, hs, rfl, .inr (.inr (.inl ⟨hk, _, ih1, hd, ih2⟩))⟩
  | bth hs hk _ _ ih1 ih2 => exact h _ ⟨_, hs, rfl, .inr (.inr (.inr ⟨hk, ih1, ih2⟩))⟩
/-- What is brought about by what is said is said. -/
theorem brg_imp {cs : List Crd} {l : List Pr} (h : ∀ p ∈ l, Imp (· ∈ cs) p) {c : Crd} (hc : c ∈ cs) {p : Pr} (hb : Brg c l p) : Imp (· ∈ cs) p := by
  obtain ⟨r, x⟩ := p
  obtain ⟨h1, h2⟩ := hb
  simp only at h1 h2
  subst h1
  rcases h2 with ⟨hk, rfl⟩ | ⟨hk, h3⟩ | ⟨hk, y, h3, hd, h4⟩ | ⟨hk, h3, h4⟩
  · exact Imp.mem (S := (· ∈ cs)) hc hk
  · exact Imp.inc (S := (· ∈ cs)) hc hk (h _ h3)
  · exact Imp.lnk (S := (· ∈ cs)) hc hk (h _ h3) hd (h _ h4)
  · exact Imp.bth (S := (· ∈ cs)) hc hk (h _ h3) (h _ h4)
/-- What is said is closed. -/
theorem imp_clos {cs : List Crd} {l : List Pr} (h : ∀ p, p ∈ l ↔ Imp (· ∈ cs) p) : Clos cs l := fun p ⟨c, hc, hb⟩ => (h p).2 (brg_imp (fun q hq => (h q).1 hq) hc hb)
theorem Rnd.imp {cs : List Crd} {l out : List Pr} (h : Rnd cs l out) (hi : ∀ p ∈ l, Imp (· ∈ cs) p) : ∀ p ∈ out, Imp (· ∈ cs) p := fun p hp => by
  obtain ⟨new, rfl, -, -, hm⟩ := h
  rcases (hm p).1 hp with h1 | ⟨c, hc, h1⟩
  · exact hi p h1
  · exact brg_imp hi hc h1
theorem Rnd.nodup {cs : List Crd} {l out : List Pr} (h : Rnd cs l out) (hn : l.Nodup) : out.Nodup := by
  obtain ⟨new, rfl, h1, h2, -⟩ := h
  exact List.nodup_append.2 ⟨hn, h1, fun a ha b hb e => by subst e; exact h2 a hb ha⟩
/-- Whoever is brought about was there, or is a Member's. -/
def whos (cs : List Crd) (l : List Pr) : List ByteArray := cs.map (·.wh) ++ l.map (·.2)
def uniW (cs : List Crd) (ws : List ByteArray) : List Pr := (cs.map roleOf).flatMap fun r => ws.map fun x => (r, x)
theorem uniW_length (cs : List Crd) (ws : List ByteArray) : (uniW cs ws).length = cs.length * ws.length := by
  have : ∀ (a : List Rl), (a.flatMap fun r => ws.map fun x => (r, x)).length = a.length * ws.length := by
    intro a
    induction a with
    | nil => simp
    | cons r t ih => rw [List.flatMap_cons, List.length_append, ih, List.length_map, List.length_cons, Nat.succ_mul, Nat.add_comm]
  unfold uniW
  rw [this, List.length_map]
theorem brg_uni {cs : List Crd} {l : List Pr} {ws : List ByteArray} (hw : ∀ c ∈ cs, c.wh ∈ ws) (hl : ∀ p ∈ l, p.2 ∈ ws) {c : Crd} (hc : c ∈ cs) {p : Pr} (hb : Brg c l p) : p ∈ uniW cs ws ∧ p.2 ∈ ws := by
  obtain ⟨h1, h2⟩ := hb
  have hx : p.2 ∈ ws := by
    rcases h2 with ⟨_, h3⟩ | ⟨_, h3⟩ | ⟨_, y, _, _, h3⟩ | ⟨_, h3, _⟩
    · rw [h3]; exact hw c hc
    · exact hl ((c.ao, c.an), p.2) h3
    · exact hl ((y, c.bn), p.2) h3
    · exact hl ((c.ao, c.an), p.2) h3
  exact ⟨List.mem_flatMap.2 ⟨roleOf c, List.mem_map.2 ⟨c, hc, rfl⟩, List.mem_map.2 ⟨p.2, hx, by rw [← h1]⟩⟩, hx⟩
end Go.Proofs.YtcligogmmjdobaaGreatDoor.Sh
/-
  The document's own In, by contract.
-/
namespace Go.Proofs.YtcligogmmjdobaaGreatDoor.Sh
open Go Go.RowKit

set_option linter.unusedSimpArgs false
set_option linter.unusedVariables false
theorem inne {a b : ByteArray} (h : a ≠ b) : ¬ a.toList = b.toList ∧ (a.toList == b.toList) = false := by
  have : ¬ a.toList = b.toList := fun e => h (ba_eq (by rw [← Lib.toList_data, ← Lib.toList_data, e]))
  exact ⟨this, beq_eq_false_iff_ne.2 this⟩
set_option maxHeartbeats 4000000 in
theorem in_any (A : Option Addr) (l : List Pr) (n c : Nat) (hn : l.length = n) (hm : n ≤ 1000000000) (o nm who : ByteArray) (w : World) (h : Els encP w w.heap.size A l) :
    Calls Tryz.prog 14 #[.slice A n c, .agg #[.string o, .string nm, .string who]] w fun e w' => e = .returned (.bool (decide (((o, nm), who) ∈ l))) ∧ Below w.heap.size w w' := by
  have HN := hid hn
  have HY := hid h
  obtain ⟨w1, hw1⟩ : ∃ w1, w1 = w.alloc (.cells #[.string o, .string nm, .string who] 36) := ⟨_, rfl⟩
  obtain ⟨bd, hbd⟩ : ∃ bd, bd = (⟨w.heap.size, 0, none⟩ : Addr) := ⟨_, rfl⟩
  have q1 : Below w.heap.size w w1 := by rw [hw1]; exact (Below.refl _ _).alloc (Nat.le_refl _) _
  have hz1 : w1.heap.size = w.heap.size + 1 := by rw [hw1]; simp
  have r1 : ∀ W, Below w1.heap.size w1 W → W.cell? bd = some (.string o) ∧ W.cell? ⟨bd.block, bd.off + 1, none⟩ = some (.string nm) ∧ W.cell? ⟨bd.block, bd.off + 2, none⟩ = some (.string who) := fun W hW => by
    obtain ⟨ad, e, hc⟩ := reads_new w #[.string o, .string nm, .string who] 36 (0, 0) (by simp)
    injection e with e
    subst e
    rw [← hw1] at hc
    subst hbd
    have hb : ∀ k, (⟨w.heap.size, k, none⟩ : Addr).block < w1.heap.size := fun k => by rw [hz1]; exact Nat.lt_succ_self _
    exact ⟨(hW.cell (hb 0)).trans (hc 0 _ rfl), (hW.cell (hb 1)).trans (hc 1 _ rfl), (hW.cell (hb 2)).trans (hc 2 _ rfl)⟩
  have HR := hid r1
  have HQ := hid q1
  clear hn h q1 hz1 r1
  go_enter Tryz.func14, Tryz.ntmps14
  go_wp2_with fail
  rw [← hw1, ← hbd]
  clear hw1 hbd
  go_loopw [5] (fun i wr => ∃ j : Nat, j ≤ n ∧ i = .int .i64 j ∧ Hid (((o, nm), who) ∉ l.take j) ∧ Hid (∃ q, wr = w1.drewN q)) (fun i _ => n - (intOf i).toNat)
  case atStart => exact ⟨0, Nat.zero_le _, rfl, hid (by simp), hid ⟨0, rfl⟩⟩
  case round =>
    obtain ⟨j, hj, rfl, HNI, hw⟩ := hrel
    have hwr : Below w1.heap.size w1 wr := by obtain ⟨q, rfl⟩ := hw.out; exact below_drewN (Below.refl _ _) q
    by_cases hlt : j < n
    · obtain ⟨⟨⟨o2, nm2⟩, who2⟩, hx⟩ : ∃ x, l[j]? = some x := ⟨_, List.getElem?_eq_getElem (by rw [HN.out]; exact hlt)⟩
      obtain ⟨ad, aj, rfl, -, ea, -, a0, ai⟩ := ((HY.out.below HQ.out).below (hwr.mono HQ.out.size)).get hx
      have a0 := a0 _ rfl
      have a1 := ai 1 _ (by omega) rfl
      have a2 := ai 2 _ (by omega) rfl
      have ea : ad.add (j * 3) = aj := ea
      obtain ⟨b0, b1, b2⟩ := HR.out wr hwr
      have hk0 : (0 : Int) ≤ (j : Int) := Int.natCast_nonneg _
      have hk1 : (j : Int) < (n : Int) := by omega
      have HX := hid hx
      have HT : Hid (((o, nm), who) ≠ ((o2, nm2), who2) → ((o, nm), who) ∉ l.take (j + 1)) := hid (fun hne => by
        rw [take_snoc_of HX.out, List.mem_append, List.mem_singleton]
        rintro (h1 | h1)
        · exact HNI.out h1
        · exact hne h1)
      have HM : Hid (((o2, nm2), who2) ∈ l) := hid (List.mem_of_getElem? HX.out)
      clear hx hwr ai
      by_cases ho : o2 = o
      · subst ho
        by_cases hnm : nm2 = nm
        · subst hnm
          by_cases hwh : who2 = who
          · subst hwh
            go_wp2_with fail
            go_quiet (fail)
            go_wp2
            go_ret
            exact ⟨by rw [decide_eq_true HM.out]; rfl, by
              obtain ⟨q, rfl⟩ := hw.out
              exact below_drewN (below_drewN HQ.out q) _⟩
          · have HT2 := hid (HT.out (by intro e; simp only [Prod.mk.injEq] at e; exact hwh (by rw [e.2])))
            obtain ⟨x1, x2⟩ := inne hwh
            clear hwh
            go_wp2_with fail
            go_quiet (fail)
            go_wp2
            go_roundw
            case rel => exact ⟨j + 1, by omega, by go_num, HT2, by
              obtain ⟨q, rfl⟩ := hw.out
              exact hid ⟨q + nq, World.drewN_drewN _ _ _⟩⟩
            case measure => simp [intOf]; omega
        · have HT2 := hid (HT.out (by intro e; simp only [Prod.mk.injEq] at e; exact hnm (by rw [e.1.2])))
          obtain ⟨x1, x2⟩ := inne hnm
          clear hnm
          go_wp2_with fail
          go_quiet (fail)
          go_wp2
          go_roundw
          case rel => exact ⟨j + 1, by omega, by go_num, HT2, by
            obtain ⟨q, rfl⟩ := hw.out
            exact hid ⟨q + nq, World.drewN_drewN _ _ _⟩⟩
          case measure => simp [intOf]; omega
      · have HT2 := hid (HT.out (by intro e; simp only [Prod.mk.injEq] at e; exact ho (by rw [e.1.1])))
        obtain ⟨x1, x2⟩ := inne ho
        clear ho
        go_wp2_with fail
        go_quiet (fail)
        go_wp2
        go_roundw
        case rel => exact ⟨j + 1, by omega, by go_num, HT2, by
          obtain ⟨q, rfl⟩ := hw.out
          exact hid ⟨q + nq, World.drewN_drewN _ _ _⟩⟩
        case measure => simp [intOf]; omega
    · obtain rfl : j = n := by omega
      go_wp2
      go_ret
      exact ⟨by rw [decide_eq_false (by have := HNI.out; rwa [List.take_of_length_le (by rw [HN.out]; exact Nat.le_refl _)] at this)]; rfl, by
        obtain ⟨q, rfl⟩ := hw.out
        exact below_drewN HQ.out q⟩
end Go.Proofs.YtcligogmmjdobaaGreatDoor.Sh
