/-
  The document's own Once and Support, by contract.
-/
import Derived.Test.YtoajckhnneagnaaDoorJd42
import Derived.Test.YtoajckhnneagnaaDoorJd18
set_option linter.unusedVariables false
set_option linter.unusedSimpArgs false
namespace Go.Proofs.YtoajckhnneagnaaDoor.Sh
open Go Go.RowKit

set_option linter.unusedVariables false
set_option linter.unusedSimpArgs false
abbrev bfI (x y : Int × Int) : Bool := beforeI x.1 x.2 y.1 y.2
def insI (x : Int × Int) : List (Int × Int) → List (Int × Int)
  | [] => [x]
  | y :: t => if bfI x y = true then x :: y :: t else if y = x then y :: t else y :: insI x t
theorem insI_mem (x : Int × Int) (l : List (Int × Int)) (i : Int × Int) : i ∈ insI x l ↔ i = x ∨ i ∈ l := by
  induction l with
  | nil => simp [insI]
  | cons y t ih =>
    unfold insI
    by_cases h : bfI x y = true
    · rw [if_pos h]; simp
    · rw [if_neg h]
      by_cases h2 : y = x
      · rw [if_pos h2, h2]; simp
      · rw [if_neg h2, List.mem_cons, ih, List.mem_cons]
        constructor
        · rintro (h | h | h)
          · exact .inr (.inl h)
          · exact .inl h
          · exact .inr (.inr h)
        · rintro (h | h | h)
          · exact .inr (.inl h)
          · exact .inl h
          · exact .inr (.inr h)
theorem insI_len (x : Int × Int) (l : List (Int × Int)) : (insI x l).length ≤ l.length + 1 := by
  induction l with
  | nil => simp [insI]
  | cons y t ih =>
    unfold insI
    split
    · simp
    · split
      · simp
      · simp only [List.length_cons]; omega
theorem insI_sorted (x : Int × Int) (l : List (Int × Int)) (h : SortedI l) : SortedI (insI x l) := by
  induction l with
  | nil => exact List.pairwise_singleton _ _
  | cons y t ih =>
    obtain ⟨h1, h2⟩ := List.pairwise_cons.1 h
    unfold insI
    by_cases hb : bfI x y = true
    · rw [if_pos hb]
      refine List.pairwise_cons.2 ⟨fun z hz => ?_, h⟩
      rcases List.mem_cons.1 hz with e | e
      · rw [e]; exact hb
      · exact beforeI_trans hb (h1 z e)
    · rw [if_neg hb]
      by_cases he : y = x
      · rw [if_pos he]; exact h
      · rw [if_neg he]
        refine List.pairwise_cons.2 ⟨fun z hz => ?_, ih h2⟩
        rcases (insI_mem x t z).1 hz with e | e
        · rw [e]
          obtain ⟨x1, x2⟩ := x
          obtain ⟨y1, y2⟩ := y
          unfold bfI beforeI at hb
          unfold beforeI
          simp only [decide_eq_true_eq, Prod.mk.injEq, not_and] at hb he ⊢
          by_cases e1 : y1 = x1
          · have := he e1; omega
          · omega
        · exact h1 z e
def stI (x : Int × Int) (s : List (Int × Int) × Bool) (y : Int × Int) : List (Int × Int) × Bool :=
  ((if s.2 = true then s.1 else if bfI x y = true then s.1 ++ [x] else s.1) ++ [y], s.2 || bfI x y || decide (y = x))
theorem stI_put (x : Int × Int) (l acc : List (Int × Int)) : l.foldl (stI x) (acc, true) = (acc ++ l, true) := by
  induction l generalizing acc with
  | nil => simp
  | cons y t ih => rw [List.foldl_cons, show stI x (acc, true) y = (acc ++ [y], true) by simp [stI], ih]; simp
theorem stI_fin (x : Int × Int) (l acc : List (Int × Int)) : (if (l.foldl (stI x) (acc, false)).2 = true then (l.foldl (stI x) (acc, false)).1 else (l.foldl (stI x) (acc, false)).1 ++ [x]) = acc ++ insI x l := by
  induction l generalizing acc with
  | nil => simp [insI]
  | cons y t ih =>
    rw [List.foldl_cons]
    unfold insI
    by_cases hb : bfI x y = true
    · rw [show stI x (acc, false) y = (acc ++ [x] ++ [y], true) by simp [stI, hb], stI_put, if_pos hb]; simp
    · have hb' := Bool.eq_false_iff.2 hb
      by_cases he : y = x
      · rw [show stI x (acc, false) y = (acc ++ [y], true) by unfold stI; rw [hb', decide_eq_true he]; simp, stI_put, if_neg hb, if_pos he]; simp
      · rw [show stI x (acc, false) y = (acc ++ [y], false) by unfold stI; rw [hb', decide_eq_false he]; simp, ih, if_neg hb, if_neg he]; simp
def onceI (l : List (Int × Int)) : List (Int × Int) := l.foldl (fun o x => insI x o) []
theorem onceI_snoc (l : List (Int × Int)) (x : Int × Int) : onceI (l ++ [x]) = insI x (onceI l) := by unfold onceI; rw [List.foldl_append]; rfl
theorem onceI_all (l : List (Int × Int)) : SortedI (onceI l) ∧ (onceI l).length ≤ l.length ∧ ∀ i, i ∈ onceI l ↔ i ∈ l := by
  have key : ∀ (l o : List (Int × Int)), SortedI o → SortedI (l.foldl (fun o x => insI x o) o) ∧ (l.foldl (fun o x => insI x o) o).length ≤ o.length + l.length ∧ ∀ i, i ∈ l.foldl (fun o x => insI x o) o ↔ i ∈ o ∨ i ∈ l := by
    intro l
    induction l with
    | nil => intro o h; exact ⟨h, by simp, by simp⟩
    | cons x t ih =>
      intro o h
      obtain ⟨a1, a2, a3⟩ := ih (insI x o) (insI_sorted x o h)
      refine ⟨a1, ?_, fun i => ?_⟩
      · have := insI_len x o
        rw [List.foldl_cons]
        simp only [List.length_cons]
        omega
      · rw [List.foldl_cons, a3, insI_mem, List.mem_cons]
        constructor
        · rintro ((h | h) | h)
          · exact .inr (.inl h)
          · exact .inl h
          · exact .inr (.inr h)
        · rintro (h | h | h)
          · exact .inl (.inr h)
          · exact .inl (.inl h)
          · exact .inr h
  obtain ⟨a1, a2, a3⟩ := key l [] List.Pairwise.nil
  exact ⟨a1, by simp only [List.length_nil, Nat.zero_add] at a2; exact a2, fun i => by rw [show onceI l = l.foldl (fun o x => insI x o) [] from rfl, a3]; simp⟩
set_option maxHeartbeats 16000000 in
set_option maxRecDepth 100000 in
theorem onceB_any (A : Option Addr) (l : List (Int × Int)) (n c : Nat) (hn : l.length = n) (hm : n ≤ 1000000000) (w : World) (h : Els encI w w.heap.size A l) :
    Calls Tryd.prog 34 #[.slice A n c] w fun e w' => ∃ A' c', e = .returned (.slice A' (onceI l).length c') ∧ Own (E := encI) w' w.heap.size 27 (.slice A' (onceI l).length c') (onceI l) ∧ Below w.heap.size w w' := by
  have HN := hid hn
  have HA := hid h
  clear hn h
  go_enter Tryd.func34, Tryd.ntmps34
  go_wp2_with fail
  go_loopw [3, 4] (fun v i wr => ∃ (A3 : Option Addr) (m c3 j : Nat) (out : List (Int × Int)), v = .slice A3 m c3 ∧ i = .int .i64 (j : Int) ∧ j ≤ n ∧ m ≤ n ∧ Hid (out.length = m) ∧ Hid (out = onceI (l.take j)) ∧ Hid (Own (E := encI) wr w.heap.size 27 (.slice A3 m c3) out) ∧ Hid (Below w.heap.size w wr)) (fun _ i _ => n - (intOf i).toNat)
  case atStart => exact ⟨none, 0, 0, 0, [], rfl, rfl, Nat.zero_le _, Nat.zero_le _, hid rfl, hid (by simp [onceI]), hid (Own.nil _ _ _), hid (Below.refl _ _)⟩
  case round =>
    obtain ⟨wo, hwo⟩ : ∃ x, x = wr := ⟨_, rfl⟩
    subst hwo
    obtain ⟨A3, m, c3, j, out, rfl, rfl, hj, hmn, HM, HOU, HOW, HB⟩ := hrel
    by_cases hlt : j < n
    · obtain ⟨⟨d, q⟩, hx⟩ : ∃ x, l[j]? = some x := ⟨_, List.getElem?_eq_getElem (by rw [HN.out]; exact hlt)⟩
      have HX := hid hx
      obtain ⟨ad, aj, rfl, hab, ea, habj, a0, ai⟩ := (HA.out.below HB.out).get hx
      have a0 := a0 _ rfl
      have a1 := ai 1 _ (by omega) rfl
      have ea : ad.add (j * 2) = aj := ea
      have HBS : Hid (w.heap.size ≤ wo.heap.size) := hid HB.out.size
      have HKL := hid (fun W (hW : Below wo.heap.size wo W) => (⟨(hW.cell (p := aj) (show aj.block < _ by have := HBS.out; omega)).trans a0, (hW.cell (p := ⟨aj.block, aj.off + 1, none⟩) (show aj.block < _ by have := HBS.out; omega)).trans a1⟩ : W.cell? aj = some (.int .i64 d) ∧ W.cell? ⟨aj.block, aj.off + 1, none⟩ = some (.int .i64 q)))
      have HEO := hid (own_els HOW.out)
      have HIN : Hid (onceI (l.take (j + 1)) = insI (d, q) out) := hid (by rw [take_snoc_of HX.out, onceI_snoc, HOU.out])
      have hj0 : (0 : Int) ≤ (j : Int) := Int.natCast_nonneg _
      have hj1 : (j : Int) < (n : Int) := by omega
      clear hx hab habj ai a0 a1
      go_wp2_with fail
      go_loopw [5, 6, 7] (fun v pv kv w2 => ∃ (A5 : Option Addr) (c5 : Nat) (nx : List (Int × Int)) (P : Bool) (k : Nat), v = .slice A5 nx.length c5 ∧ pv = .bool P ∧ kv = .int .i64 (k : Int) ∧ k ≤ m ∧ Hid ((nx, P) = (out.take k).foldl (stI (d, q)) ([], false)) ∧ Hid (nx.length ≤ 2 * k) ∧ Hid (Own (E := encI) w2 wo.heap.size 27 (.slice A5 nx.length c5) nx) ∧ Hid (Below wo.heap.size wo w2)) (fun _ _ kv _ => m - (intOf kv).toNat)
      case atStart => exact ⟨none, 0, [], false, 0, rfl, rfl, rfl, Nat.zero_le _, hid (by simp), hid (by simp), hid (Own.nil _ _ _), hid (Below.refl _ _)⟩
      case round =>
        obtain ⟨w2, hw2⟩ : ∃ x, x = wr := ⟨_, rfl⟩
        subst hw2
        obtain ⟨A5, c5, nx, P, k, rfl, rfl, rfl, hk, HST, HNL, HO2, HB2⟩ := hrel
        by_cases hlk : k < m
        · obtain ⟨⟨d', q'⟩, hy⟩ : ∃ y, out[k]? = some y := ⟨_, List.getElem?_eq_getElem (by rw [HM.out]; exact hlk)⟩
          have HY := hid hy
          obtain ⟨bd, bj, rfl, hbb, eb, hbbj, b0, bi⟩ := HEO.out.get hy
          have b0 := b0 _ rfl
          have b1 := bi 1 _ (by omega) rfl
          have eb : bd.add (k * 2) = bj := eb
          have HK := hid (fun W (hW : Below wo.heap.size wo W) => (⟨(HKL.out W hW).1, (HKL.out W hW).2, (hW.cell (p := bj) (by rw [hbbj]; exact hbb)).trans b0, (hW.cell (p := ⟨bj.block, bj.off + 1, none⟩) (show bj.block < _ by rw [hbbj]; exact hbb)).trans b1⟩ :
            W.cell? aj = some (.int .i64 d) ∧ W.cell? ⟨aj.block, aj.off + 1, none⟩ = some (.int .i64 q) ∧ W.cell? bj = some (.int .i64 d') ∧ W.cell? ⟨bj.block, bj.off + 1, none⟩ = some (.int .i64 q')))
          have HSN : Hid ((out.take (k + 1)).foldl (stI (d, q)) ([], false) = stI (d, q) (nx, P) (d', q')) := hid (by rw [take_snoc_of HY.out, List.foldl_append, ← HST.out]; rfl)
          have hk0 : (0 : Int) ≤ (k : Int) := Int.natCast_nonneg _
          have hk1 : (k : Int) < (m : Int) := by omega
          obtain ⟨Z, hZ⟩ : ∃ Z, beforeI d q d' q' = Z := ⟨_, rfl⟩
          have HBF : Hid (beforeI d q d' q' = Z) := hid hZ
          have HBE := hid (fun W (hW : Below w2.heap.size w2 W) => by have := refBefore_any d q d' q' W; rw [hZ] at this; exact this)
          clear hy hbb hbbj bi b0 b1 hZ
          obtain ⟨a0, a1, b0, b1⟩ := HK.out _ HB2.out
          cases P with
          | true =>
            go_wp2_with fail
            clear a0 a1 b0 b1

            have a0 := fun x : Wn w2.heap.size w2 => (HK.out x.1 ((HB2.out).trans (x.2.mono (HB2.out).size))).1
            have a1 := fun x : Wn w2.heap.size w2 => (HK.out x.1 ((HB2.out).trans (x.2.mono (HB2.out).size))).2.1
            have b0 := fun x : Wn w2.heap.size w2 => (HK.out x.1 ((HB2.out).trans (x.2.mono (HB2.out).size))).2.2.1
            have b1 := fun x : Wn w2.heap.size w2 => (HK.out x.1 ((HB2.out).trans (x.2.mono (HB2.out).size))).2.2.2
            have HDR := hid (Below.refl w2.heap.size w2).drew
            refine region_in w2.heap.size w2 (by kernel_rfl) (by kernel_rfl) HDR.out ?_
            repeat (go_big_quiet_step (fail))
            refine wpQuiet_nil ?_
            intro w10 hwq
            have Hw10 := hid ((HB2.out).trans (hwq.mono (HB2.out).size))
            have HOK := hid hwq
            clear hwq a0 a1 b0 b1
            obtain ⟨a0, a1, b0, b1⟩ := HK.out _ Hw10.out
            have HO10 := hid (HO2.out.below (HOK.out))
            go_wp2_with fail
            by_cases hd : d = d'
            · subst hd
              by_cases hq : q = q'
              · subst hq
                have a0 := fun x : Wn w10.heap.size w10 => (HK.out x.1 ((Hw10.out).trans (x.2.mono (Hw10.out).size))).1
                have a1 := fun x : Wn w10.heap.size w10 => (HK.out x.1 ((Hw10.out).trans (x.2.mono (Hw10.out).size))).2.1
                have b0 := fun x : Wn w10.heap.size w10 => (HK.out x.1 ((Hw10.out).trans (x.2.mono (Hw10.out).size))).2.2.1
                have b1 := fun x : Wn w10.heap.size w10 => (HK.out x.1 ((Hw10.out).trans (x.2.mono (Hw10.out).size))).2.2.2
                have HDR := hid (Below.refl w10.heap.size w10).drew
                refine region_in w10.heap.size w10 (by kernel_rfl) (by kernel_rfl) HDR.out ?_
                repeat (go_big_quiet_step (fail))
                refine wpQuiet_nil ?_
                intro w13 hwq
                have Hw13 := hid ((Hw10.out).trans (hwq.mono (Hw10.out).size))
                have HOK := hid hwq
                clear hwq a0 a1 b0 b1
                obtain ⟨a0, a1, b0, b1⟩ := HK.out _ Hw13.out
                have HO13 := hid ((HO10.out).below (HOK.out))

                have HO15a := hid ((HO13.out).alloc (.cells #[.int .i64 d, .int .i64 q] 27))
                have HRD15 := hid (reads_new w13 #[.int .i64 d, .int .i64 q] 27 (0, 0))
                have HBA15 := hid ((Hw13.out).alloc (Hw13.out).size (.cells #[.int .i64 d, .int .i64 q] 27))
                have hbs15 : wo.heap.size ≤ (w13.alloc (.cells #[.int .i64 d, .int .i64 q] 27)).heap.size := HBA15.out.size
                have hln15 : (nx).length ≤ 1000000000000 := by have := HNL.out; simp only [List.length_append, List.length_singleton] at *; omega
                go_wp2_with (first | (at_builtin; refine wpList_app1 (E := encI) rfl slI (.tmp 49) (.tmp 54) rfl (B := wo.heap.size) (v := .slice A5 (nx).length c5) (l := nx) HO15a.out rfl (ad := ⟨w13.heap.size, 0, none⟩) (c := 1) (d, q) rfl HRD15.out hln15 (by omega) hbs15 ?_; intro A15 c15 w15 ho15 hg15 he15; have HO15 := hid ho15; have HB15 := hid (HBA15.out.grown hg15 hbs15 (fun g e => (World.ownsRow.lt HO15a.out g e).1)); clear ho15 hg15 he15; (obtain ⟨a0, a1, b0, b1⟩ := HK.out _ HB15.out)) | go_in)
                clear a0 a1 b0 b1
                go_roundw
                case rel => exact ⟨A15, c15, nx ++ [(d, q)], true, k + 1, by simp, rfl, by go_num, by omega, hid (by have := HSN.out; rw [this]; unfold stI; simp [HBF.out]), hid (by have := HNL.out; simp only [List.length_append, List.length_singleton] at *; omega), hid (by have := HO15.out; simpa using this), HB15⟩
                case measure => simp [intOf]; omega
              · have y1 : (q' == q) = false := beq_eq_false_iff_ne.2 (fun e => hq e.symm)
                have y2 : ¬ q' = q := fun e => hq e.symm
                have a0 := fun x : Wn w10.heap.size w10 => (HK.out x.1 ((Hw10.out).trans (x.2.mono (Hw10.out).size))).1
                have a1 := fun x : Wn w10.heap.size w10 => (HK.out x.1 ((Hw10.out).trans (x.2.mono (Hw10.out).size))).2.1
                have b0 := fun x : Wn w10.heap.size w10 => (HK.out x.1 ((Hw10.out).trans (x.2.mono (Hw10.out).size))).2.2.1
                have b1 := fun x : Wn w10.heap.size w10 => (HK.out x.1 ((Hw10.out).trans (x.2.mono (Hw10.out).size))).2.2.2
                have HDR := hid (Below.refl w10.heap.size w10).drew
                refine region_in w10.heap.size w10 (by kernel_rfl) (by kernel_rfl) HDR.out ?_
                repeat (go_big_quiet_step (fail))
                refine wpQuiet_nil ?_
                intro w13 hwq
                have Hw13 := hid ((Hw10.out).trans (hwq.mono (Hw10.out).size))
                have HOK := hid hwq
                clear hwq a0 a1 b0 b1
                obtain ⟨a0, a1, b0, b1⟩ := HK.out _ Hw13.out
                have HO13 := hid ((HO10.out).below (HOK.out))

                have HO15a := hid ((HO13.out).alloc (.cells #[.int .i64 d, .int .i64 q'] 27))
                have HRD15 := hid (reads_new w13 #[.int .i64 d, .int .i64 q'] 27 (0, 0))
                have HBA15 := hid ((Hw13.out).alloc (Hw13.out).size (.cells #[.int .i64 d, .int .i64 q'] 27))
                have hbs15 : wo.heap.size ≤ (w13.alloc (.cells #[.int .i64 d, .int .i64 q'] 27)).heap.size := HBA15.out.size
                have hln15 : (nx).length ≤ 1000000000000 := by have := HNL.out; simp only [List.length_append, List.length_singleton] at *; omega
                go_wp2_with (first | (at_builtin; refine wpList_app1 (E := encI) rfl slI (.tmp 49) (.tmp 54) rfl (B := wo.heap.size) (v := .slice A5 (nx).length c5) (l := nx) HO15a.out rfl (ad := ⟨w13.heap.size, 0, none⟩) (c := 1) (d, q') rfl HRD15.out hln15 (by omega) hbs15 ?_; intro A15 c15 w15 ho15 hg15 he15; have HO15 := hid ho15; have HB15 := hid (HBA15.out.grown hg15 hbs15 (fun g e => (World.ownsRow.lt HO15a.out g e).1)); clear ho15 hg15 he15; (obtain ⟨a0, a1, b0, b1⟩ := HK.out _ HB15.out)) | go_in)
                clear a0 a1 b0 b1
                go_roundw
                case rel => exact ⟨A15, c15, nx ++ [(d, q')], true, k + 1, by simp, rfl, by go_num, by omega, hid (by have := HSN.out; rw [this]; unfold stI; simp [HBF.out, y2]), hid (by have := HNL.out; simp only [List.length_append, List.length_singleton] at *; omega), hid (by have := HO15.out; simpa using this), HB15⟩
                case measure => simp [intOf]; omega
            · have y1 : (d' == d) = false := beq_eq_false_iff_ne.2 (fun e => hd e.symm)
              have y2 : ¬ d' = d := fun e => hd e.symm
              have a0 := fun x : Wn w10.heap.size w10 => (HK.out x.1 ((Hw10.out).trans (x.2.mono (Hw10.out).size))).1
              have a1 := fun x : Wn w10.heap.size w10 => (HK.out x.1 ((Hw10.out).trans (x.2.mono (Hw10.out).size))).2.1
              have b0 := fun x : Wn w10.heap.size w10 => (HK.out x.1 ((Hw10.out).trans (x.2.mono (Hw10.out).size))).2.2.1
              have b1 := fun x : Wn w10.heap.size w10 => (HK.out x.1 ((Hw10.out).trans (x.2.mono (Hw10.out).size))).2.2.2
              have HDR := hid (Below.refl w10.heap.size w10).drew
              refine region_in w10.heap.size w10 (by kernel_rfl) (by kernel_rfl) HDR.out ?_
              repeat (go_big_quiet_step (fail))
              refine wpQuiet_nil ?_
              intro w13 hwq
              have Hw13 := hid ((Hw10.out).trans (hwq.mono (Hw10.out).size))
              have HOK := hid hwq
              clear hwq a0 a1 b0 b1
              obtain ⟨a0, a1, b0, b1⟩ := HK.out _ Hw13.out
              have HO13 := hid ((HO10.out).below (HOK.out))

              have HO15a := hid ((HO13.out).alloc (.cells #[.int .i64 d', .int .i64 q'] 27))
              have HRD15 := hid (reads_new w13 #[.int .i64 d', .int .i64 q'] 27 (0, 0))
              have HBA15 := hid ((Hw13.out).alloc (Hw13.out).size (.cells #[.int .i64 d', .int .i64 q'] 27))
              have hbs15 : wo.heap.size ≤ (w13.alloc (.cells #[.int .i64 d', .int .i64 q'] 27)).heap.size := HBA15.out.size
              have hln15 : (nx).length ≤ 1000000000000 := by have := HNL.out; simp only [List.length_append, List.length_singleton] at *; omega
              go_wp2_with (first | (at_builtin; refine wpList_app1 (E := encI) rfl slI (.tmp 49) (.tmp 54) rfl (B := wo.heap.size) (v := .slice A5 (nx).length c5) (l := nx) HO15a.out rfl (ad := ⟨w13.heap.size, 0, none⟩) (c := 1) (d', q') rfl HRD15.out hln15 (by omega) hbs15 ?_; intro A15 c15 w15 ho15 hg15 he15; have HO15 := hid ho15; have HB15 := hid (HBA15.out.grown hg15 hbs15 (fun g e => (World.ownsRow.lt HO15a.out g e).1)); clear ho15 hg15 he15; (obtain ⟨a0, a1, b0, b1⟩ := HK.out _ HB15.out)) | go_in)
              clear a0 a1 b0 b1
              go_roundw
              case rel => exact ⟨A15, c15, nx ++ [(d', q')], true, k + 1, by simp, rfl, by go_num, by omega, hid (by have := HSN.out; rw [this]; unfold stI; simp [HBF.out, y2]), hid (by have := HNL.out; simp only [List.length_append, List.length_singleton] at *; omega), hid (by have := HO15.out; simpa using this), HB15⟩
              case measure => simp [intOf]; omega
          | false =>
            cases Z with
            | true =>
              go_wp2_with fail
              clear a0 a1 b0 b1

              have a0 := fun x : Wn w2.heap.size w2 => (HK.out x.1 ((HB2.out).trans (x.2.mono (HB2.out).size))).1
              have a1 := fun x : Wn w2.heap.size w2 => (HK.out x.1 ((HB2.out).trans (x.2.mono (HB2.out).size))).2.1
              have b0 := fun x : Wn w2.heap.size w2 => (HK.out x.1 ((HB2.out).trans (x.2.mono (HB2.out).size))).2.2.1
              have b1 := fun x : Wn w2.heap.size w2 => (HK.out x.1 ((HB2.out).trans (x.2.mono (HB2.out).size))).2.2.2
              have HDR := hid (Below.refl w2.heap.size w2).drew
              refine region_in w2.heap.size w2 (by kernel_rfl) (by kernel_rfl) HDR.out ?_
              repeat (go_big_quiet_step (first | (go_at_call 49; with_reducible exact call_in2 (Nat.le_refl _) HBE.out)))
              refine wpQuiet_nil ?_
              intro w10 hwq
              have Hw10 := hid ((HB2.out).trans (hwq.mono (HB2.out).size))
              have HOK := hid hwq
              clear hwq a0 a1 b0 b1
              obtain ⟨a0, a1, b0, b1⟩ := HK.out _ Hw10.out
              have HO10 := hid (HO2.out.below (HOK.out))

              have HO11a := hid ((HO10.out).alloc (.cells #[.int .i64 d, .int .i64 q] 27))
              have HRD11 := hid (reads_new w10 #[.int .i64 d, .int .i64 q] 27 (0, 0))
              have HBA11 := hid ((Hw10.out).alloc (Hw10.out).size (.cells #[.int .i64 d, .int .i64 q] 27))
              have hbs11 : wo.heap.size ≤ (w10.alloc (.cells #[.int .i64 d, .int .i64 q] 27)).heap.size := HBA11.out.size
              have hln11 : (nx).length ≤ 1000000000000 := by have := HNL.out; simp only [List.length_append, List.length_singleton] at *; omega
              go_wp2_with (first | (at_builtin; refine wpList_app1 (E := encI) rfl slI (.tmp 33) (.tmp 38) rfl (B := wo.heap.size) (v := .slice A5 (nx).length c5) (l := nx) HO11a.out rfl (ad := ⟨w10.heap.size, 0, none⟩) (c := 1) (d, q) rfl HRD11.out hln11 (by omega) hbs11 ?_; intro A11 c11 w11 ho11 hg11 he11; have HO11 := hid ho11; have HB11 := hid (HBA11.out.grown hg11 hbs11 (fun g e => (World.ownsRow.lt HO11a.out g e).1)); clear ho11 hg11 he11; (obtain ⟨a0, a1, b0, b1⟩ := HK.out _ HB11.out)) | go_in)
              obtain ⟨ny, hny⟩ : ∃ z, z = nx ++ [(d, q)] := ⟨_, rfl⟩
              have hl11 : nx.length + 1 = ny.length := by rw [hny]; simp
              have HNY := hid hny
              have HNLx := HNL
              have HNL : Hid (ny.length ≤ 2 * k + 1) := hid (by have := HNLx.out; omega)
              have HO11n : Hid (Own (E := encI) w11 wo.heap.size 27 (.slice A11 ny.length c11) ny) := hid (by have := HO11.out; rw [hl11, ← hny] at this; exact this)
              rw [hl11]
              clear hny hl11
              by_cases hd : d = d'
              · subst hd
                by_cases hq : q = q'
                · subst hq
                  have a0 := fun x : Wn w11.heap.size w11 => (HK.out x.1 ((HB11.out).trans (x.2.mono (HB11.out).size))).1
                  have a1 := fun x : Wn w11.heap.size w11 => (HK.out x.1 ((HB11.out).trans (x.2.mono (HB11.out).size))).2.1
                  have b0 := fun x : Wn w11.heap.size w11 => (HK.out x.1 ((HB11.out).trans (x.2.mono (HB11.out).size))).2.2.1
                  have b1 := fun x : Wn w11.heap.size w11 => (HK.out x.1 ((HB11.out).trans (x.2.mono (HB11.out).size))).2.2.2
                  have HDR := hid (Below.refl w11.heap.size w11).drew
                  refine region_in w11.heap.size w11 (by kernel_rfl) (by kernel_rfl) HDR.out ?_
                  repeat (go_big_quiet_step (fail))
                  refine wpQuiet_nil ?_
                  intro w13 hwq
                  have Hw13 := hid ((HB11.out).trans (hwq.mono (HB11.out).size))
                  have HOK := hid hwq
                  clear hwq a0 a1 b0 b1
                  obtain ⟨a0, a1, b0, b1⟩ := HK.out _ Hw13.out
                  have HO13 := hid ((HO11n.out).below (HOK.out))

                  have HO15a := hid ((HO13.out).alloc (.cells #[.int .i64 d, .int .i64 q] 27))
                  have HRD15 := hid (reads_new w13 #[.int .i64 d, .int .i64 q] 27 (0, 0))
                  have HBA15 := hid ((Hw13.out).alloc (Hw13.out).size (.cells #[.int .i64 d, .int .i64 q] 27))
                  have hbs15 : wo.heap.size ≤ (w13.alloc (.cells #[.int .i64 d, .int .i64 q] 27)).heap.size := HBA15.out.size
                  have hln15 : (ny).length ≤ 1000000000000 := by have := HNL.out; simp only [List.length_append, List.length_singleton] at *; omega
                  go_wp2_with (first | (at_builtin; refine wpList_app1 (E := encI) rfl slI (.tmp 49) (.tmp 54) rfl (B := wo.heap.size) (v := .slice A11 (ny).length c11) (l := ny) HO15a.out rfl (ad := ⟨w13.heap.size, 0, none⟩) (c := 1) (d, q) rfl HRD15.out hln15 (by omega) hbs15 ?_; intro A15 c15 w15 ho15 hg15 he15; have HO15 := hid ho15; have HB15 := hid (HBA15.out.grown hg15 hbs15 (fun g e => (World.ownsRow.lt HO15a.out g e).1)); clear ho15 hg15 he15; (obtain ⟨a0, a1, b0, b1⟩ := HK.out _ HB15.out)) | go_in)
                  clear a0 a1 b0 b1
                  go_roundw
                  case rel => exact ⟨A15, c15, ny ++ [(d, q)], true, k + 1, by simp, rfl, by go_num, by omega, hid (by have := HSN.out; rw [this]; unfold stI; simp [HBF.out, HNY.out]), hid (by have := HNL.out; simp only [List.length_append, List.length_singleton] at *; omega), hid (by have := HO15.out; simpa using this), HB15⟩
                  case measure => simp [intOf]; omega
                · have y1 : (q' == q) = false := beq_eq_false_iff_ne.2 (fun e => hq e.symm)
                  have y2 : ¬ q' = q := fun e => hq e.symm
                  have a0 := fun x : Wn w11.heap.size w11 => (HK.out x.1 ((HB11.out).trans (x.2.mono (HB11.out).size))).1
                  have a1 := fun x : Wn w11.heap.size w11 => (HK.out x.1 ((HB11.out).trans (x.2.mono (HB11.out).size))).2.1
                  have b0 := fun x : Wn w11.heap.size w11 => (HK.out x.1 ((HB11.out).trans (x.2.mono (HB11.out).size))).2.2.1
                  have b1 := fun x : Wn w11.heap.size w11 => (HK.out x.1 ((HB11.out).trans (x.2.mono (HB11.out).size))).2.2.2
                  have HDR := hid (Below.refl w11.heap.size w11).drew
                  refine region_in w11.heap.size w11 (by kernel_rfl) (by kernel_rfl) HDR.out ?_
                  repeat (go_big_quiet_step (fail))
                  refine wpQuiet_nil ?_
                  intro w13 hwq
                  have Hw13 := hid ((HB11.out).trans (hwq.mono (HB11.out).size))
                  have HOK := hid hwq
                  clear hwq a0 a1 b0 b1
                  obtain ⟨a0, a1, b0, b1⟩ := HK.out _ Hw13.out
                  have HO13 := hid ((HO11n.out).below (HOK.out))

                  have HO15a := hid ((HO13.out).alloc (.cells #[.int .i64 d, .int .i64 q'] 27))
                  have HRD15 := hid (reads_new w13 #[.int .i64 d, .int .i64 q'] 27 (0, 0))
                  have HBA15 := hid ((Hw13.out).alloc (Hw13.out).size (.cells #[.int .i64 d, .int .i64 q'] 27))
                  have hbs15 : wo.heap.size ≤ (w13.alloc (.cells #[.int .i64 d, .int .i64 q'] 27)).heap.size := HBA15.out.size
                  have hln15 : (ny).length ≤ 1000000000000 := by have := HNL.out; simp only [List.length_append, List.length_singleton] at *; omega
                  go_wp2_with (first | (at_builtin; refine wpList_app1 (E := encI) rfl slI (.tmp 49) (.tmp 54) rfl (B := wo.heap.size) (v := .slice A11 (ny).length c11) (l := ny) HO15a.out rfl (ad := ⟨w13.heap.size, 0, none⟩) (c := 1) (d, q') rfl HRD15.out hln15 (by omega) hbs15 ?_; intro A15 c15 w15 ho15 hg15 he15; have HO15 := hid ho15; have HB15 := hid (HBA15.out.grown hg15 hbs15 (fun g e => (World.ownsRow.lt HO15a.out g e).1)); clear ho15 hg15 he15; (obtain ⟨a0, a1, b0, b1⟩ := HK.out _ HB15.out)) | go_in)
                  clear a0 a1 b0 b1
                  go_roundw
                  case rel => exact ⟨A15, c15, ny ++ [(d, q')], true, k + 1, by simp, rfl, by go_num, by omega, hid (by have := HSN.out; rw [this]; unfold stI; simp [HBF.out, y2, HNY.out]), hid (by have := HNL.out; simp only [List.length_append, List.length_singleton] at *; omega), hid (by have := HO15.out; simpa using this), HB15⟩
                  case measure => simp [intOf]; omega
              · have y1 : (d' == d) = false := beq_eq_false_iff_ne.2 (fun e => hd e.symm)
                have y2 : ¬ d' = d := fun e => hd e.symm
                have a0 := fun x : Wn w11.heap.size w11 => (HK.out x.1 ((HB11.out).trans (x.2.mono (HB11.out).size))).1
                have a1 := fun x : Wn w11.heap.size w11 => (HK.out x.1 ((HB11.out).trans (x.2.mono (HB11.out).size))).2.1
                have b0 := fun x : Wn w11.heap.size w11 => (HK.out x.1 ((HB11.out).trans (x.2.mono (HB11.out).size))).2.2.1
                have b1 := fun x : Wn w11.heap.size w11 => (HK.out x.1 ((HB11.out).trans (x.2.mono (HB11.out).size))).2.2.2
                have HDR := hid (Below.refl w11.heap.size w11).drew
                refine region_in w11.heap.size w11 (by kernel_rfl) (by kernel_rfl) HDR.out ?_
                repeat (go_big_quiet_step (fail))
                refine wpQuiet_nil ?_
                intro w13 hwq
                have Hw13 := hid ((HB11.out).trans (hwq.mono (HB11.out).size))
                have HOK := hid hwq
                clear hwq a0 a1 b0 b1
                obtain ⟨a0, a1, b0, b1⟩ := HK.out _ Hw13.out
                have HO13 := hid ((HO11n.out).below (HOK.out))

                have HO15a := hid ((HO13.out).alloc (.cells #[.int .i64 d', .int .i64 q'] 27))
                have HRD15 := hid (reads_new w13 #[.int .i64 d', .int .i64 q'] 27 (0, 0))
                have HBA15 := hid ((Hw13.out).alloc (Hw13.out).size (.cells #[.int .i64 d', .int .i64 q'] 27))
                have hbs15 : wo.heap.size ≤ (w13.alloc (.cells #[.int .i64 d', .int .i64 q'] 27)).heap.size := HBA15.out.size
                have hln15 : (ny).length ≤ 1000000000000 := by have := HNL.out; simp only [List.length_append, List.length_singleton] at *; omega
                go_wp2_with (first | (at_builtin; refine wpList_app1 (E := encI) rfl slI (.tmp 49) (.tmp 54) rfl (B := wo.heap.size) (v := .slice A11 (ny).length c11) (l := ny) HO15a.out rfl (ad := ⟨w13.heap.size, 0, none⟩) (c := 1) (d', q') rfl HRD15.out hln15 (by omega) hbs15 ?_; intro A15 c15 w15 ho15 hg15 he15; have HO15 := hid ho15; have HB15 := hid (HBA15.out.grown hg15 hbs15 (fun g e => (World.ownsRow.lt HO15a.out g e).1)); clear ho15 hg15 he15; (obtain ⟨a0, a1, b0, b1⟩ := HK.out _ HB15.out)) | go_in)
                clear a0 a1 b0 b1
                go_roundw
                case rel => exact ⟨A15, c15, ny ++ [(d', q')], true, k + 1, by simp, rfl, by go_num, by omega, hid (by have := HSN.out; rw [this]; unfold stI; simp [HBF.out, y2, HNY.out]), hid (by have := HNL.out; simp only [List.length_append, List.length_singleton] at *; omega), hid (by have := HO15.out; simpa using this), HB15⟩
                case measure => simp [intOf]; omega
            | false =>
              go_wp2_with fail
              clear a0 a1 b0 b1

              have a0 := fun x : Wn w2.heap.size w2 => (HK.out x.1 ((HB2.out).trans (x.2.mono (HB2.out).size))).1
              have a1 := fun x : Wn w2.heap.size w2 => (HK.out x.1 ((HB2.out).trans (x.2.mono (HB2.out).size))).2.1
              have b0 := fun x : Wn w2.heap.size w2 => (HK.out x.1 ((HB2.out).trans (x.2.mono (HB2.out).size))).2.2.1
              have b1 := fun x : Wn w2.heap.size w2 => (HK.out x.1 ((HB2.out).trans (x.2.mono (HB2.out).size))).2.2.2
              have HDR := hid (Below.refl w2.heap.size w2).drew
              refine region_in w2.heap.size w2 (by kernel_rfl) (by kernel_rfl) HDR.out ?_
              repeat (go_big_quiet_step (first | (go_at_call 49; with_reducible exact call_in2 (Nat.le_refl _) HBE.out)))
              refine wpQuiet_nil ?_
              intro w10 hwq
              have Hw10 := hid ((HB2.out).trans (hwq.mono (HB2.out).size))
              have HOK := hid hwq
              clear hwq a0 a1 b0 b1
              obtain ⟨a0, a1, b0, b1⟩ := HK.out _ Hw10.out
              have HO10 := hid (HO2.out.below (HOK.out))
              go_wp2_with fail
              by_cases hd : d = d'
              · subst hd
                by_cases hq : q = q'
                · subst hq
                  have a0 := fun x : Wn w10.heap.size w10 => (HK.out x.1 ((Hw10.out).trans (x.2.mono (Hw10.out).size))).1
                  have a1 := fun x : Wn w10.heap.size w10 => (HK.out x.1 ((Hw10.out).trans (x.2.mono (Hw10.out).size))).2.1
                  have b0 := fun x : Wn w10.heap.size w10 => (HK.out x.1 ((Hw10.out).trans (x.2.mono (Hw10.out).size))).2.2.1
                  have b1 := fun x : Wn w10.heap.size w10 => (HK.out x.1 ((Hw10.out).trans (x.2.mono (Hw10.out).size))).2.2.2
                  have HDR := hid (Below.refl w10.heap.size w10).drew
                  refine region_in w10.heap.size w10 (by kernel_rfl) (by kernel_rfl) HDR.out ?_
                  repeat (go_big_quiet_step (fail))
                  refine wpQuiet_nil ?_
                  intro w13 hwq
                  have Hw13 := hid ((Hw10.out).trans (hwq.mono (Hw10.out).size))
                  have HOK := hid hwq
                  clear hwq a0 a1 b0 b1
                  obtain ⟨a0, a1, b0, b1⟩ := HK.out _ Hw13.out
                  have HO13 := hid ((HO10.out).below (HOK.out))

                  have HO15a := hid ((HO13.out).alloc (.cells #[.int .i64 d, .int .i64 q] 27))
                  have HRD15 := hid (reads_new w13 #[.int .i64 d, .int .i64 q] 27 (0, 0))
                  have HBA15 := hid ((Hw13.out).alloc (Hw13.out).size (.cells #[.int .i64 d, .int .i64 q] 27))
                  have hbs15 : wo.heap.size ≤ (w13.alloc (.cells #[.int .i64 d, .int .i64 q] 27)).heap.size := HBA15.out.size
                  have hln15 : (nx).length ≤ 1000000000000 := by have := HNL.out; simp only [List.length_append, List.length_singleton] at *; omega
                  go_wp2_with (first | (at_builtin; refine wpList_app1 (E := encI) rfl slI (.tmp 49) (.tmp 54) rfl (B := wo.heap.size) (v := .slice A5 (nx).length c5) (l := nx) HO15a.out rfl (ad := ⟨w13.heap.size, 0, none⟩) (c := 1) (d, q) rfl HRD15.out hln15 (by omega) hbs15 ?_; intro A15 c15 w15 ho15 hg15 he15; have HO15 := hid ho15; have HB15 := hid (HBA15.out.grown hg15 hbs15 (fun g e => (World.ownsRow.lt HO15a.out g e).1)); clear ho15 hg15 he15; (obtain ⟨a0, a1, b0, b1⟩ := HK.out _ HB15.out)) | go_in)
                  clear a0 a1 b0 b1
                  go_roundw
                  case rel => exact ⟨A15, c15, nx ++ [(d, q)], true, k + 1, by simp, rfl, by go_num, by omega, hid (by have := HSN.out; rw [this]; unfold stI; simp [HBF.out]), hid (by have := HNL.out; simp only [List.length_append, List.length_singleton] at *; omega), hid (by have := HO15.out; simpa using this), HB15⟩
                  case measure => simp [intOf]; omega
                · have y1 : (q' == q) = false := beq_eq_false_iff_ne.2 (fun e => hq e.symm)
                  have y2 : ¬ q' = q := fun e => hq e.symm
                  have a0 := fun x : Wn w10.heap.size w10 => (HK.out x.1 ((Hw10.out).trans (x.2.mono (Hw10.out).size))).1
                  have a1 := fun x : Wn w10.heap.size w10 => (HK.out x.1 ((Hw10.out).trans (x.2.mono (Hw10.out).size))).2.1
                  have b0 := fun x : Wn w10.heap.size w10 => (HK.out x.1 ((Hw10.out).trans (x.2.mono (Hw10.out).size))).2.2.1
                  have b1 := fun x : Wn w10.heap.size w10 => (HK.out x.1 ((Hw10.out).trans (x.2.mono (Hw10.out).size))).2.2.2
                  have HDR := hid (Below.refl w10.heap.size w10).drew
                  refine region_in w10.heap.size w10 (by kernel_rfl) (by kernel_rfl) HDR.out ?_
                  repeat (go_big_quiet_step (fail))
                  refine wpQuiet_nil ?_
                  intro w13 hwq
                  have Hw13 := hid ((Hw10.out).trans (hwq.mono (Hw10.out).size))
                  have HOK := hid hwq
                  clear hwq a0 a1 b0 b1
                  obtain ⟨a0, a1, b0, b1⟩ := HK.out _ Hw13.out
                  have HO13 := hid ((HO10.out).below (HOK.out))

                  have HO15a := hid ((HO13.out).alloc (.cells #[.int .i64 d, .int .i64 q'] 27))
                  have HRD15 := hid (reads_new w13 #[.int .i64 d, .int .i64 q'] 27 (0, 0))
                  have HBA15 := hid ((Hw13.out).alloc (Hw13.out).size (.cells #[.int .i64 d, .int .i64 q'] 27))
                  have hbs15 : wo.heap.size ≤ (w13.alloc (.cells #[.int .i64 d, .int .i64 q'] 27)).heap.size := HBA15.out.size
                  have hln15 : (nx).length ≤ 1000000000000 := by have := HNL.out; simp only [List.length_append, List.length_singleton] at *; omega
                  go_wp2_with (first | (at_builtin; refine wpList_app1 (E := encI) rfl slI (.tmp 49) (.tmp 54) rfl (B := wo.heap.size) (v := .slice A5 (nx).length c5) (l := nx) HO15a.out rfl (ad := ⟨w13.heap.size, 0, none⟩) (c := 1) (d, q') rfl HRD15.out hln15 (by omega) hbs15 ?_; intro A15 c15 w15 ho15 hg15 he15; have HO15 := hid ho15; have HB15 := hid (HBA15.out.grown hg15 hbs15 (fun g e => (World.ownsRow.lt HO15a.out g e).1)); clear ho15 hg15 he15; (obtain ⟨a0, a1, b0, b1⟩ := HK.out _ HB15.out)) | go_in)
                  clear a0 a1 b0 b1
                  go_roundw
                  case rel => exact ⟨A15, c15, nx ++ [(d, q')], false, k + 1, by simp, rfl, by go_num, by omega, hid (by have := HSN.out; rw [this]; unfold stI; simp [HBF.out, y2]), hid (by have := HNL.out; simp only [List.length_append, List.length_singleton] at *; omega), hid (by have := HO15.out; simpa using this), HB15⟩
                  case measure => simp [intOf]; omega
              · have y1 : (d' == d) = false := beq_eq_false_iff_ne.2 (fun e => hd e.symm)
                have y2 : ¬ d' = d := fun e => hd e.symm
                have a0 := fun x : Wn w10.heap.size w10 => (HK.out x.1 ((Hw10.out).trans (x.2.mono (Hw10.out).size))).1
                have a1 := fun x : Wn w10.heap.size w10 => (HK.out x.1 ((Hw10.out).trans (x.2.mono (Hw10.out).size))).2.1
                have b0 := fun x : Wn w10.heap.size w10 => (HK.out x.1 ((Hw10.out).trans (x.2.mono (Hw10.out).size))).2.2.1
                have b1 := fun x : Wn w10.heap.size w10 => (HK.out x.1 ((Hw10.out).trans (x.2.mono (Hw10.out).size))).2.2.2
                have HDR := hid (Below.refl w10.heap.size w10).drew
                refine region_in w10.heap.size w10 (by kernel_rfl) (by kernel_rfl) HDR.out ?_
                repeat (go_big_quiet_step (fail))
                refine wpQuiet_nil ?_
                intro w13 hwq
                have Hw13 := hid ((Hw10.out).trans (hwq.mono (Hw10.out).size))
                have HOK := hid hwq
                clear hwq a0 a1 b0 b1
                obtain ⟨a0, a1, b0, b1⟩ := HK.out _ Hw13.out
                have HO13 := hid ((HO10.out).below (HOK.out))

                have HO15a := hid ((HO13.out).alloc (.cells #[.int .i64 d', .int .i64 q'] 27))
                have HRD15 := hid (reads_new w13 #[.int .i64 d', .int .i64 q'] 27 (0, 0))
                have HBA15 := hid ((Hw13.out).alloc (Hw13.out).size (.cells #[.int .i64 d', .int .i64 q'] 27))
                have hbs15 : wo.heap.size ≤ (w13.alloc (.cells #[.int .i64 d', .int .i64 q'] 27)).heap.size := HBA15.out.size
                have hln15 : (nx).length ≤ 1000000000000 := by have := HNL.out; simp only [List.length_append, List.length_singleton] at *; omega
                go_wp2_with (first | (at_builtin; refine wpList_app1 (E := encI) rfl slI (.tmp 49) (.tmp 54) rfl (B := wo.heap.size) (v := .slice A5 (nx).length c5) (l := nx) HO15a.out rfl (ad := ⟨w13.heap.size, 0, none⟩) (c := 1) (d', q') rfl HRD15.out hln15 (by omega) hbs15 ?_; intro A15 c15 w15 ho15 hg15 he15; have HO15 := hid ho15; have HB15 := hid (HBA15.out.grown hg15 hbs15 (fun g e => (World.ownsRow.lt HO15a.out g e).1)); clear ho15 hg15 he15; (obtain ⟨a0, a1, b0, b1⟩ := HK.out _ HB15.out)) | go_in)
                clear a0 a1 b0 b1
                go_roundw
                case rel => exact ⟨A15, c15, nx ++ [(d', q')], false, k + 1, by simp, rfl, by go_num, by omega, hid (by have := HSN.out; rw [this]; unfold stI; simp [HBF.out, y2]), hid (by have := HNL.out; simp only [List.length_append, List.length_singleton] at *; omega), hid (by have := HO15.out; simpa using this), HB15⟩
                case measure => simp [intOf]; omega
        · obtain rfl : k = m := by omega
          have HFI : Hid ((if P = true then nx else nx ++ [(d, q)]) = onceI (l.take (j + 1))) := hid (by
            have h1 := stI_fin (d, q) out []
            have h2 := HST.out
            rw [List.take_of_length_le (by rw [HM.out]; exact Nat.le_refl _)] at h2
            rw [← h2, List.nil_append] at h1
            rw [HIN.out, ← h1])
          have HLE : Hid ((onceI (l.take (j + 1))).length ≤ n) := hid (by have h1 := (onceI_all (l.take (j + 1))).2.1; rw [List.length_take] at h1; omega)
          have hB2s := HBS.out
          cases P with
          | true =>
            have HE : Hid (nx = onceI (l.take (j + 1))) := hid (by have := HFI.out; rwa [if_pos rfl] at this)
            obtain ⟨z, hz⟩ : ∃ z, nx.length = z := ⟨_, rfl⟩
            have HZ := hid hz
            have HO3 := HO2
            rw [hz] at HO3 ⊢
            clear hz
            go_wp2_with fail
            go_roundw
            case rel => exact ⟨A5, z, c5, j + 1, nx, rfl, by go_num, by omega, by have := HLE.out; rw [← HE.out, HZ.out] at this; exact this, HZ, HE, hid (own_mono' HO3.out hB2s), hid (HB.out.trans (HB2.out.mono hB2s))⟩
            case measure => simp [intOf]; omega
          | false =>
            have HE : Hid (nx ++ [(d, q)] = onceI (l.take (j + 1))) := hid (by have := HFI.out; rwa [if_neg (by simp)] at this)
            obtain ⟨a0, a1⟩ := HKL.out _ HB2.out
            have HO17a := hid ((HO2.out).alloc (.cells #[.int .i64 d, .int .i64 q] 27))
            have HRD17 := hid (reads_new w2 #[.int .i64 d, .int .i64 q] 27 (0, 0))
            have HBA17 := hid ((HB2.out).alloc (HB2.out).size (.cells #[.int .i64 d, .int .i64 q] 27))
            have hbs17 : wo.heap.size ≤ (w2.alloc (.cells #[.int .i64 d, .int .i64 q] 27)).heap.size := HBA17.out.size
            have hln17 : nx.length ≤ 1000000000000 := by have := HNL.out; omega
            go_wp2_with (first | (at_builtin; refine wpList_app1 (E := encI) rfl slI (.tmp 58) (.tmp 63) rfl (B := wo.heap.size) (v := .slice A5 nx.length c5) (l := nx) HO17a.out rfl (ad := ⟨w2.heap.size, 0, none⟩) (c := 1) (d, q) rfl HRD17.out hln17 (by omega) hbs17 ?_; intro A17 c17 w17 ho17 hg17 he17; have HO17 := hid ho17; have HB17 := hid (HBA17.out.grown hg17 hbs17 (fun g e => (World.ownsRow.lt HO17a.out g e).1)); clear ho17 hg17 he17) | go_in)
            go_roundw
            case rel => exact ⟨A17, nx.length + 1, c17, j + 1, nx ++ [(d, q)], rfl, by go_num, by omega, by have := HLE.out; rw [← HE.out, List.length_append, List.length_singleton] at this; exact this, hid (by simp), HE, hid (own_mono' HO17.out hB2s), hid (HB.out.trans (HB17.out.mono hB2s))⟩
            case measure => simp [intOf]; omega
    · obtain rfl : j = n := by omega
      have HE : Hid (out = onceI l) := hid (by rw [HOU.out, List.take_of_length_le (by rw [HN.out]; exact Nat.le_refl _)])
      go_wp2_with fail
      go_ret
      exact ⟨A3, c3, by rw [← HE.out, HM.out]; rfl, by rw [← HE.out, HM.out]; exact HOW.out, HB.out⟩
theorem refSupportB_any (p : PT) (w : World) (hm : p.size ≤ 1000000000) (hp : PIn w w.heap.size p) :
    Calls Tryd.prog 24 #[.agg p.cells.toArray] w fun e w' => ∃ A' c', e = .returned (.slice A' (onceI p.ids).length c') ∧ Own (E := encI) w' w.heap.size 27 (.slice A' (onceI p.ids).length c') (onceI p.ids) ∧ Below w.heap.size w w' := by
  obtain ⟨o, n, x, d, q, A, c, ps⟩ := p
  obtain ⟨S, hS⟩ : ∃ S, (PT.mk o n x d q A c ps).size = S := ⟨_, rfl⟩
  have HCA := hid (fun W (hW : Below w.heap.size w W) => ids7B_any (.mk o n x d q A c ps) W hm (hp.now hW))
  have HSL : Hid ((PT.mk o n x d q A c ps).ids.length = S) := hid hS
  obtain ⟨I, hI⟩ : ∃ I, (PT.mk o n x d q A c ps).ids = I := ⟨_, rfl⟩
  rw [hI] at HCA HSL ⊢
  unfold PT.cells at HCA ⊢
  simp only [hS] at HCA hm ⊢
  have HM := hid hm
  have HB1 := hid ((Below.refl w.heap.size w).alloc (Nat.le_refl _) (.cells #[.string o, .string n, .string x, .int .i64 d, .int .i64 q, .slice A ps.length c] 30))
  clear hm hp hS hI
  go_enter Tryd.func24, Tryd.ntmps24
  go_wp2_with fail
  refine (HCA.out _ HB1.out).mono ?_
  rintro er w3 ⟨A3, c3, rfl, ho3, hb3⟩
  have HB3 := hid (HB1.out.trans (hb3.mono HB1.out.size))
  have HON := hid (onceB_any A3 I S c3 HSL.out HM.out w3 (own_els ho3))
  clear ho3 hb3
  go_wp2_with fail
  refine HON.out.mono ?_
  rintro er w4 ⟨A4, c4, rfl, ho4, hb4⟩
  go_wp2_with fail
  go_ret
  exact ⟨A4, c4, rfl, own_mono' ho4 HB3.out.size, HB3.out.trans (hb4.mono HB3.out.size)⟩
end Go.Proofs.YtoajckhnneagnaaDoor.Sh
