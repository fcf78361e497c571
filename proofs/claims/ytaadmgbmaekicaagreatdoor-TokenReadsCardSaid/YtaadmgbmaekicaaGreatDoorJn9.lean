/-
  A role in a block of its own; results that hold a struct; worlds one after another.
-/
import Derived.Test.YtaadmgbmaekicaaGreatDoorJn8
set_option linter.unusedVariables false
set_option linter.unusedSimpArgs false
namespace Go.Proofs.YtaadmgbmaekicaaGreatDoor.Sh
open Go Go.RowKit

/-- A role in a block of its own. -/
def RoleAt (w : World) (g : Nat) (o n : ByteArray) : Prop := w.heap[g]? = some (.cells #[.string o, .string n] 69 (0, 0))
theorem RoleAt.new (w : World) (o n : ByteArray) : RoleAt (w.alloc (.cells #[.string o, .string n] 69)) w.heap.size o n := heap_alloc_new w _
theorem RoleAt.c0 {w : World} {g : Nat} {o n : ByteArray} (h : RoleAt w g o n) : w.cell? ⟨g, 0, none⟩ = some (.string o) := by rw [cell_of_row w g 0 _ _ (0, 0) h]; rfl
theorem RoleAt.c1 {w : World} {g : Nat} {o n : ByteArray} (h : RoleAt w g o n) : w.cell? ⟨g, 1, none⟩ = some (.string n) := by rw [cell_of_row w g 1 _ _ (0, 0) h]; rfl
theorem RoleAt.lt {w : World} {g : Nat} {o n : ByteArray} (h : RoleAt w g o n) : g < w.heap.size := (Array.getElem?_eq_some_iff.1 h).1
theorem RoleAt.below {w w' : World} {B g : Nat} {o n : ByteArray} (h : RoleAt w g o n) (hb : Below B w w') (hg : g < B) : RoleAt w' g o n := (hb.block g hg).trans h
theorem RoleAt.kept {w w' : World} {g : Nat} {o n : ByteArray} (h : RoleAt w g o n) (hb : Below w.heap.size w w') : RoleAt w' g o n := h.below hb h.lt
theorem below_box (w : World) (o n : ByteArray) : Below w.heap.size w (w.alloc (.cells #[.string o, .string n] 69)) := (Below.refl _ _).alloc (Nat.le_refl _) _
theorem results_cell_tmp {P : Program} {fn : Func} {p q : Tmp} {ty : TypeId} (h : fn.results = #[.cell p ty, .tmp q]) (tmps : Array Value) (w : World) (b o : Nat) (cs : List Value) (d : TypeDesc)
    (hp : tmps.getD p undef = .pointer (some ⟨b, o, none⟩)) (hc : w.rangeAt b o cs) (hu : P.underlying ty = some d) (hd : d.isRow = true) (hi : (P.info? ty).map (·.size) = some cs.length) :
    (results fn tmps).run P w = .ok (.tuple #[.agg cs.toArray, tmps.getD q undef]) w := by
  have hp' : tmps[p]?.getD undef = .pointer (some ⟨b, o, none⟩) := by simpa using hp
  simp [results, h, hp', asAddr, run_loadVar_mid w b o ty cs d hc hu hd hi]
/-- Two texts in a block of two cells, behind a store of both. -/
theorem pair_set {w : World} {g : Nat} {u v x y : Value} {t : TypeId} (h : w.heap[g]? = some (.cells #[u, v] t (0, 0))) : ((w.setCell ⟨g, 0, none⟩ x).setCell ⟨g, 1, none⟩ y).heap[g]? = some (.cells #[x, y] t (0, 0)) :=
  heap_setCell_same _ g 1 _ _ y (heap_setCell_same w g 0 _ _ x h)
theorem info_role : (Tryz.prog.info? 69).map (·.size) = some 2 := by kernel_rfl
theorem results_cell1 {P : Program} {fn : Func} {p : Tmp} {ty : TypeId} (h : fn.results = #[.cell p ty]) (tmps : Array Value) (w : World) (b o : Nat) (cs : List Value) (d : TypeDesc)
    (hp : tmps.getD p undef = .pointer (some ⟨b, o, none⟩)) (hc : w.rangeAt b o cs) (hu : P.underlying ty = some d) (hd : d.isRow = true) (hi : (P.info? ty).map (·.size) = some cs.length) :
    (results fn tmps).run P w = .ok (.agg cs.toArray) w := by
  have hp' : tmps[p]?.getD undef = .pointer (some ⟨b, o, none⟩) := by simpa using hp
  simp [results, h, hp', asAddr, run_loadVar_mid w b o ty cs d hc hu hd hi]
theorem kept_trans {W w' W' : World} {B : Nat} (h : Below B W w') (hB : B ≤ w'.heap.size) (bb : Below w'.heap.size w' W') : Below B W W' := h.trans (bb.mono hB)
end Go.Proofs.YtaadmgbmaekicaaGreatDoor.Sh
/-
  The document's own bare and May of a credential.
-/
namespace Go.Proofs.YtaadmgbmaekicaaGreatDoor.Sh
open Go Go.RowKit

section
variable {w : World} {g : Nat} {d q kd : Int} {nm wh ao an bo bn : ByteArray}
end
/-- A text that is not empty. -/
theorem sne {s : ByteArray} (h : s ≠ E0) : ¬ s.toList = [] ∧ (s.toList == []) = false ∧ s.toList.isEmpty = false ∧ ¬ s = ⟨#[]⟩ := by
  have h5 : ¬ s.toList = [] := fun e => h (ba_eq (by rw [← Lib.toList_data, e]; rfl))
  exact ⟨h5, beq_eq_false_iff_ne.2 h5, by cases hs : s.toList with | nil => exact absurd hs h5 | cons _ _ => rfl, h⟩

end Go.Proofs.YtaadmgbmaekicaaGreatDoor.Sh
/-
  Credentials: what is read was put; texts apart. Plain lemmas.
-/
namespace Go.Proofs.YtaadmgbmaekicaaGreatDoor.Sh
open Go Go.RowKit

theorem num_back {l : List UInt8} {p p' : Nat} {e lo hi V : Int} (h : numStep l p e lo hi = (V, p', 0)) :
    e = 0 ∧ ∃ N : Nat, V = (N : Int) ∧ N < 9223372036854775808 ∧ lo ≤ V ∧ V ≤ hi ∧ l.drop p = enc N ++ l.drop p' ∧ p' = p + (enc N).length := by
  unfold numStep at h
  by_cases he : e = 0
  · refine ⟨he, ?_⟩
    rw [if_neg (by simp [he])] at h
    by_cases h2 : (look (l.drop p)).2.2 = 0
    · rw [if_neg (by simp [h2])] at h
      by_cases h3 : ((look (l.drop p)).1 : Int) < lo ∨ hi < ((look (l.drop p)).1 : Int)
      · rw [if_pos h3] at h
        simp at h
      · rw [if_neg h3] at h
        simp only [Prod.mk.injEq, and_true] at h
        have hk : look (l.drop p) = ((look (l.drop p)).1, (look (l.drop p)).2.1, 0) := by rw [← h2]
        obtain ⟨g1, g2, g3, g4⟩ := look_ok hk
        refine ⟨(look (l.drop p)).1, h.1.symm, g1, by omega, by omega, ?_, by rw [← g4]; exact h.2.symm⟩
        rw [← g3, ← h.2, ← List.drop_drop, List.take_append_drop]
    · rw [if_pos h2] at h
      simp only [Prod.mk.injEq] at h
      exact absurd h.2.2 h2
  · rw [if_pos he] at h
    simp only [Prod.mk.injEq] at h
    exact absurd h.2.2 he
theorem text_back {l S : List UInt8} {p p' : Nat} {e : Int} (h : textStep l p e 8 = (S, p', 0)) :
    e = 0 ∧ l.drop p = encText (bL S) ++ l.drop p' ∧ p' = p + (encText (bL S)).length := by
  unfold textStep at h
  by_cases he : e = 0
  · refine ⟨he, ?_⟩
    rw [if_neg (by simp [he])] at h
    by_cases h2 : (look (l.drop p)).2.2 = 0
    · rw [if_neg (by simp [h2])] at h
      split at h
      · simp at h
      · split at h
        · simp at h
        · rename_i h3 h4
          simp only [Prod.mk.injEq, and_true] at h
          have hk : look (l.drop p) = ((look (l.drop p)).1, (look (l.drop p)).2.1, 0) := by rw [← h2]
          obtain ⟨g1, g2, g3, g4⟩ := look_ok hk
          generalize (look (l.drop p)).1 = N at *
          generalize (look (l.drop p)).2.1 = u at *
          obtain ⟨rfl, rfl⟩ := h
          rw [List.length_drop] at g2
          have hsz : (bL ((l.drop (p + u)).take N)).size = N := by
            rw [← size_list]
            show ((l.drop (p + u)).take N).length = N
            rw [List.length_take, List.length_drop]
            omega
          have hlen : (encText (bL ((l.drop (p + u)).take N))).length = u + N := by rw [encText_length, hsz, g4]
          refine ⟨?_, by rw [hlen]; omega⟩
          rw [encText, hsz, ← g3]
          show l.drop p = (l.drop p).take u ++ (l.drop (p + u)).take N ++ l.drop (p + u + N)
          rw [← List.drop_drop (i := N) (j := p + u), List.append_assoc, List.take_append_drop, ← List.drop_drop, List.take_append_drop]
    · rw [if_pos h2] at h
      simp only [Prod.mk.injEq] at h
      exact absurd h.2.2 h2
  · rw [if_pos he] at h
    simp only [Prod.mk.injEq] at h
    exact absurd h.2.2 he
theorem name_back {l S : List UInt8} {p p' : Nat} {e : Int} (h : nameStep l p e = (S, p', 0)) :
    e = 0 ∧ mayL S = true ∧ l.drop p = encText (bL S) ++ l.drop p' ∧ p' = p + (encText (bL S)).length := by
  unfold nameStep at h
  simp only [Prod.mk.injEq] at h
  obtain ⟨h1, h2, h3⟩ := h
  rw [h1] at h3
  by_cases hm : mayL S = true
  · rw [if_pos hm] at h3
    have ht : textStep l p e 8 = (S, p', 0) := by rw [← h1, ← h2, ← h3]
    obtain ⟨g1, g2, g3⟩ := text_back ht
    exact ⟨g1, hm, g2, g3⟩
  · rw [if_neg hm] at h3
    split at h3
    · simp at h3
    · rename_i h4
      exact absurd h3 h4
theorem role_back {l o n : List UInt8} {p p' : Nat} {e : Int} (h : roleStep l p e = ((o, n), p', 0)) :
    e = 0 ∧ roleL o n = true ∧ l.drop p = putR (bL o) (bL n) ++ l.drop p' ∧ p' = p + (putR (bL o) (bL n)).length := by
  unfold roleStep at h
  obtain ⟨V, p1, e1, hx⟩ : ∃ V p1 e1, numStep l p e 1 16 = (V, p1, e1) := ⟨_, _, _, rfl⟩
  rw [hx] at h
  simp only at h
  obtain ⟨S, p2, e2, hy⟩ : ∃ S p2 e2, nameStep l p1 e1 = (S, p2, e2) := ⟨_, _, _, rfl⟩
  rw [hy] at h
  simp only [Prod.mk.injEq] at h
  obtain ⟨⟨rfl, rfl⟩, rfl, rfl⟩ := h
  obtain ⟨rfl, hm, d2, q2⟩ := name_back hy
  obtain ⟨rfl, N, rfl, hN, l1, l2, d1, q1⟩ := num_back hx
  have hn : numL (domL (N : Int)) = N := by rw [numL_domL _ l1 l2]; simp
  refine ⟨rfl, ?_, ?_, ?_⟩
  · unfold roleL
    rw [hm, hn]
    simp; omega
  · rw [d1, d2, putR]
    show _ = enc (numL (domL (N : Int))) ++ encText (bL S) ++ _
    rw [hn, List.append_assoc]
  · rw [q2, q1, putR, List.length_append]
    show _ = _ + ((enc (numL (domL (N : Int)))).length + _)
    rw [hn]
    omega
/-- What is read may be, and was put. -/
theorem readC_back {l : List UInt8} {c : Crd} {p : Nat} (h : readC l 0 0 = (c, p, 0)) : mayC c = true ∧ l.take p = putC c ∧ p ≤ l.length ∧ p = (putC c).length := by
  unfold readC fin at h
  simp only [Prod.mk.injEq] at h
  obtain ⟨h1, h2⟩ := h
  have hc : rawC l 0 0 = (c, p, 0) := by
    have h3 : (rawC l 0 0).2.2 = 0 := by rw [h2]
    rw [if_pos h3] at h1
    rw [← h1, ← h2]
  clear h1 h2
  have key : mayC c = true ∧ l.drop 0 = putC c ++ l.drop p ∧ p = (putC c).length := by
    unfold rawC at hc
    simp only at hc
    obtain ⟨d, p1, e1, hx1⟩ : ∃ d p1 e1, numStep l 0 0 1 16 = (d, p1, e1) := ⟨_, _, _, rfl⟩
    rw [hx1] at hc
    simp only at hc
    obtain ⟨q, p2, e2, hx2⟩ : ∃ q p2 e2, numStep l p1 e1 1 4000 = (q, p2, e2) := ⟨_, _, _, rfl⟩
    rw [hx2] at hc
    simp only at hc
    obtain ⟨nm, p3, e3, hx3⟩ : ∃ nm p3 e3, nameStep l p2 e2 = (nm, p3, e3) := ⟨_, _, _, rfl⟩
    rw [hx3] at hc
    simp only at hc
    obtain ⟨kd, p4, e4, hx4⟩ : ∃ kd p4 e4, numStep l p3 e3 1 4 = (kd, p4, e4) := ⟨_, _, _, rfl⟩
    rw [hx4] at hc
    simp only at hc
    -- the head, once the body's error is none
    have head : e4 = 0 → ∃ D Q K : Nat, d = (D : Int) ∧ q = (Q : Int) ∧ kd = (K : Int) ∧ 1 ≤ d ∧ d ≤ 16 ∧ 1 ≤ q ∧ q ≤ 4000 ∧ mayL nm = true ∧ 1 ≤ kd ∧ kd ≤ 4 ∧
        l.drop 0 = enc D ++ (enc Q ++ (encText (bL nm) ++ (enc K ++ l.drop p4))) ∧ p4 = (enc D).length + ((enc Q).length + ((encText (bL nm)).length + (enc K).length)) := by
      rintro rfl
      obtain ⟨rfl, K, rfl, _, k1, k2, d4, q4⟩ := num_back hx4
      obtain ⟨rfl, hm, d3, q3⟩ := name_back hx3
      obtain ⟨rfl, Q, rfl, _, m1, m2, d2, q2⟩ := num_back hx2
      obtain ⟨_, D, rfl, _, n1, n2, d1, q1⟩ := num_back hx1
      exact ⟨D, Q, K, rfl, rfl, rfl, n1, n2, m1, m2, hm, k1, k2, by rw [d1, d2, d3, d4], by omega⟩
    have finish : ∀ (c : Crd) (body : List UInt8) (p : Nat), c.d = d → c.q = q → c.nm = bL nm → c.kd = kd → e4 = 0 → kindOk c = true → putBody c = body → l.drop p4 = body ++ l.drop p → p = p4 + body.length →
        mayC c = true ∧ l.drop 0 = putC c ++ l.drop p ∧ p = (putC c).length := by
      intro c body p hd hq hn hk he hko hb hdr hp
      obtain ⟨D, Q, K, i1, i2, i3, n1, n2, m1, m2, hm, k1, k2, hl, hp4⟩ := head he
      have ePut : putC c = enc D ++ (enc Q ++ (encText (bL nm) ++ (enc K ++ body))) := by
        unfold putC
        rw [hd, hq, hn, hk, hb, i1, i2, i3]
        simp
      refine ⟨?_, ?_, ?_⟩
      · unfold mayC headOk mayB
        rw [hd, hq, hn, hko]
        have : mayL (bL nm).data.toList = true := hm
        rw [this]
        simp; omega
      · rw [hl, ePut, hdr]; simp
      · rw [ePut, hp, hp4]; simp; omega
    unfold bodyStep at hc
    split at hc
    · rename_i hk
      obtain ⟨S, p5, e5, hy⟩ : ∃ S p5 e5, nameStep l p4 e4 = (S, p5, e5) := ⟨_, _, _, rfl⟩
      rw [hy] at hc
      simp only [Prod.mk.injEq] at hc
      obtain ⟨rfl, rfl, rfl⟩ := hc
      obtain ⟨he, hm, d5, q5⟩ := name_back hy
      refine finish _ (encText (bL S)) _ rfl rfl rfl rfl he ?_ ?_ d5 q5
      · unfold kindOk mayB
        simp only
        rw [if_pos hk]
        have : mayL (bL S).data.toList = true := hm
        rw [this]; simp
      · unfold putBody; simp only; rw [if_pos hk]
    · rename_i hk1
      split at hc
      · rename_i hk
        obtain ⟨⟨o, n⟩, p5, e5, hy⟩ : ∃ S q5 r5, roleStep l p4 e4 = (S, q5, r5) := ⟨_, _, _, rfl⟩
        rw [hy] at hc
        simp only [Prod.mk.injEq] at hc
        obtain ⟨rfl, rfl, rfl⟩ := hc
        obtain ⟨he, hm, d5, q5⟩ := role_back hy
        refine finish _ (putR (bL o) (bL n)) _ rfl rfl rfl rfl he ?_ ?_ d5 q5
        · unfold kindOk roleB
          simp only
          rw [if_neg hk1, if_pos hk]
          have : roleL (bL o).data.toList (bL n).data.toList = true := hm
          rw [this]; simp
        · unfold putBody; simp only; rw [if_neg hk1, if_pos hk]
      · rename_i hk2
        split at hc
        · rename_i hk
          obtain ⟨S, p5, e5, hy⟩ : ∃ S p5 e5, nameStep l p4 e4 = (S, p5, e5) := ⟨_, _, _, rfl⟩
          rw [hy] at hc
          simp only at hc
          obtain ⟨S2, p6, e6, hz⟩ : ∃ S p6 e6, nameStep l p5 e5 = (S, p6, e6) := ⟨_, _, _, rfl⟩
          rw [hz] at hc
          simp only [Prod.mk.injEq] at hc
          obtain ⟨rfl, rfl, rfl⟩ := hc
          obtain ⟨rfl, hm2, d6, q6⟩ := name_back hz
          obtain ⟨he, hm, d5, q5⟩ := name_back hy
          refine finish _ (encText (bL S) ++ encText (bL S2)) _ rfl rfl rfl rfl he ?_ ?_ (by rw [d5, d6, List.append_assoc]) (by rw [q6, q5, List.length_append, Nat.add_assoc])
          · unfold kindOk mayB
            simp only
            rw [if_neg hk1, if_neg hk2, if_pos hk]
            have t1 : mayL (bL S).data.toList = true := hm
            have t2 : mayL (bL S2).data.toList = true := hm2
            rw [t1, t2]; simp
          · unfold putBody; simp only; rw [if_neg hk1, if_neg hk2, if_pos hk]
        · rename_i hk3
          split at hc
          · rename_i hk
            obtain ⟨⟨o, n⟩, p5, e5, hy⟩ : ∃ S q5 r5, roleStep l p4 e4 = (S, q5, r5) := ⟨_, _, _, rfl⟩
            rw [hy] at hc
            simp only at hc
            obtain ⟨⟨o2, n2⟩, p6, e6, hz⟩ : ∃ S q6 r6, roleStep l p5 e5 = (S, q6, r6) := ⟨_, _, _, rfl⟩
            rw [hz] at hc
            simp only [Prod.mk.injEq] at hc
            obtain ⟨rfl, rfl, rfl⟩ := hc
            obtain ⟨rfl, hm2, d6, q6⟩ := role_back hz
            obtain ⟨he, hm, d5, q5⟩ := role_back hy
            refine finish _ (putR (bL o) (bL n) ++ putR (bL o2) (bL n2)) _ rfl rfl rfl rfl he ?_ ?_ (by rw [d5, d6, List.append_assoc]) (by rw [q6, q5, List.length_append, Nat.add_assoc])
            · unfold kindOk roleB
              simp only
              rw [if_neg hk1, if_neg hk2, if_neg hk3, if_pos hk]
              have t1 : roleL (bL o).data.toList (bL n).data.toList = true := hm
              have t2 : roleL (bL o2).data.toList (bL n2).data.toList = true := hm2
              rw [t1, t2]; simp
            · unfold putBody; simp only; rw [if_neg hk1, if_neg hk2, if_neg hk3, if_pos hk]
          · rename_i hk4
            simp only [Prod.mk.injEq] at hc
            obtain ⟨_, _, rfl⟩ := hc
            obtain ⟨_, _, _, _, _, _, _, _, _, _, _, k1, k2, _⟩ := head rfl
            omega
  obtain ⟨k1, k2, k3⟩ := key
  rw [List.drop_zero] at k2
  refine ⟨k1, ?_, ?_, k3⟩
  · conv => lhs; rw [k2]
    rw [k3]; simp
  · have := congrArg List.length k2
    rw [List.length_append] at this
    omega

/-! ### texts apart -/
theorem may_bytes {l : List UInt8} (h : mayL l = true) : ∀ x ∈ l, letter x = true ∨ digit x = true := by
  cases l with
  | nil => intro x hx; cases hx
  | cons y t =>
    rw [mayL_cons] at h
    simp only [Bool.and_eq_true, decide_eq_true_eq, List.all_eq_true] at h
    intro x hx
    rcases List.mem_cons.1 hx with rfl | hx
    · exact .inl h.1.1
    · have := h.1.2 x hx
      unfold okName at this
      rwa [Bool.or_eq_true] at this
theorem may_count {l : List UInt8} (h : mayL l = true) (s : UInt8) (hs : letter s = false) (hs2 : digit s = false) : l.count s = 0 := by
  rw [List.count_eq_zero]
  intro hm
  rcases may_bytes h s hm with k | k
  · rw [hs] at k; cases k
  · rw [hs2] at k; cases k
theorem dom_count (d : Int) (h1 : 1 ≤ d) (h2 : d ≤ 16) (s : UInt8) (hs : letter s = false) (hs2 : digit s = false) : (domL d).count s = 0 := may_count (domL_may d h1 h2) s hs hs2
theorem split_uniq {s : UInt8} {a a' t t' : List UInt8} (h : a.count s = 0) (h' : a'.count s = 0) (e : a ++ s :: t = a' ++ s :: t') : a = a' ∧ t = t' := by
  induction a generalizing a' with
  | nil =>
    cases a' with
    | nil => simp at e; exact ⟨rfl, e⟩
    | cons y u =>
      simp only [List.nil_append, List.cons_append, List.cons.injEq] at e
      rw [← e.1] at h'
      simp at h'
  | cons x u ih =>
    cases a' with
    | nil =>
      simp only [List.nil_append, List.cons_append, List.cons.injEq] at e
      rw [e.1] at h
      simp at h
    | cons y v =>
      simp only [List.cons_append, List.cons.injEq] at e
      obtain ⟨rfl, e⟩ := e
      have hu : u.count s = 0 := by rw [List.count_cons] at h; omega
      have hv : v.count s = 0 := by rw [List.count_cons] at h'; omega
      obtain ⟨k1, k2⟩ := ih hu hv e
      exact ⟨by rw [k1], k2⟩
end Go.Proofs.YtaadmgbmaekicaaGreatDoor.Sh
/-
  Credentials: unlike ones have unlike texts, but for their Seq. Plain lemmas.
-/
namespace Go.Proofs.YtaadmgbmaekicaaGreatDoor.Sh
open Go Go.RowKit

theorem role_count {o n : List UInt8} (h : roleL o n = true) (s : UInt8) (hs : letter s = false) (hs2 : digit s = false) : o.count s = 0 ∧ n.count s = 0 := by
  unfold roleL at h
  simp only [Bool.and_eq_true, decide_eq_true_eq] at h
  obtain ⟨g1, g2, g3⟩ := domL_numL _ h.2
  refine ⟨?_, may_count h.1 s hs hs2⟩
  rw [← g1]
  exact dom_count _ (by omega) (by omega) s hs hs2
theorem l46 : letter 46 = false := rfl
theorem d46 : digit 46 = false := rfl
theorem l32 : letter 32 = false := rfl
theorem d32 : digit 32 = false := rfl
theorem textBody_1 {c : Crd} (h : c.kd = 1) : textBody c = c.wh.data.toList := by unfold textBody; rw [if_pos h]
theorem textBody_2 {c : Crd} (h : c.kd = 2) : textBody c = c.ao.data.toList ++ 46 :: c.an.data.toList := by unfold textBody; rw [if_neg (by omega), if_pos h, textB_list]
theorem textBody_3 {c : Crd} (h : c.kd = 3) : textBody c = domL c.d ++ 46 :: (c.an.data.toList ++ 46 :: c.bn.data.toList) := by unfold textBody; rw [if_neg (by omega), if_neg (by omega), if_pos h]
theorem textBody_4 {c : Crd} (h : c.kd = 4) : textBody c = c.ao.data.toList ++ 46 :: (c.an.data.toList ++ 32 :: 38 :: 32 :: (c.bo.data.toList ++ 46 :: c.bn.data.toList)) := by
  unfold textBody; rw [if_neg (by omega), if_neg (by omega), if_neg (by omega), if_pos h, textB_list, textB_list]; simp
theorem body_counts {c : Crd} (h : mayC c = true) : (textBody c).count 46 = (if c.kd = 1 then 0 else if c.kd = 2 then 1 else 2) ∧ (textBody c).count 32 = (if c.kd = 4 then 2 else 0) := by
  obtain ⟨h1, h2, h3, h4, h5⟩ := may_head h
  unfold textBody
  rcases may_kind h with ⟨k, m1, -, -, -, -⟩ | ⟨k, -, m1, -, -⟩ | ⟨k, -, -, m1, -, m2⟩ | ⟨k, -, m1, m2⟩
  · rw [if_pos k, if_pos k, if_neg (by omega)]
    exact ⟨may_count m1 46 l46 d46, may_count m1 32 l32 d32⟩
  · obtain ⟨a1, a2⟩ := role_count m1 46 l46 d46
    obtain ⟨b1, b2⟩ := role_count m1 32 l32 d32
    rw [if_neg (by omega), if_pos k, if_neg (by omega), if_pos k, if_neg (by omega), textB_list]
    simp [List.count_append, a1, a2, b1, b2]
  · have a1 := may_count m1 46 l46 d46
    have a2 := may_count m2 46 l46 d46
    have a3 := dom_count c.d h1 h2 46 l46 d46
    have b1 := may_count m1 32 l32 d32
    have b2 := may_count m2 32 l32 d32
    have b3 := dom_count c.d h1 h2 32 l32 d32
    rw [if_neg (by omega), if_neg (by omega), if_pos k, if_neg (by omega), if_neg (by omega), if_neg (by omega)]
    simp [List.count_append, a1, a2, a3, b1, b2, b3]
  · obtain ⟨a1, a2⟩ := role_count m1 46 l46 d46
    obtain ⟨b1, b2⟩ := role_count m1 32 l32 d32
    obtain ⟨a3, a4⟩ := role_count m2 46 l46 d46
    obtain ⟨b3, b4⟩ := role_count m2 32 l32 d32
    rw [if_neg (by omega), if_neg (by omega), if_neg (by omega), if_pos k, if_neg (by omega), if_neg (by omega), if_pos k, textB_list, textB_list]
    simp [List.count_append, a1, a2, a3, a4, b1, b2, b3, b4]
theorem domL_inj {d d' : Int} (h1 : 1 ≤ d) (h2 : d ≤ 16) (h3 : 1 ≤ d') (h4 : d' ≤ 16) (e : domL d = domL d') : d = d' := by
  have a := numL_domL d h1 h2
  have b := numL_domL d' h3 h4
  rw [e, b] at a
  omega
/-- UNLIKE CREDENTIALS HAVE UNLIKE TEXTS, but for their Seq. -/
theorem textC_inj {c c' : Crd} (h : mayC c = true) (h' : mayC c' = true) (e : textC c = textC c') : { c with q := c'.q } = c' := by
  obtain ⟨h1, h2, h3, h4, h5⟩ := may_head h
  obtain ⟨g1, g2, g3, g4, g5⟩ := may_head h'
  have e1 : textHead c ++ textBody c = textHead c' ++ textBody c' := by
    have := congrArg (fun b : ByteArray => b.data.toList) e
    simpa [textC] using this
  unfold textHead at e1
  simp only [List.append_assoc, List.cons_append] at e1
  obtain ⟨ed, e2⟩ := split_uniq (dom_count c.d h1 h2 46 l46 d46) (dom_count c'.d g1 g2 46 l46 d46) e1
  simp only [List.nil_append] at e2
  obtain ⟨en, e3⟩ := split_uniq (may_count h5 32 l32 d32) (may_count g5 32 l32 d32) e2
  have e4 : textBody c = textBody c' := by simpa using e3
  have hd := domL_inj h1 h2 g1 g2 ed
  have hn := ba_eq en
  obtain ⟨c1, c2⟩ := body_counts h
  obtain ⟨b1, b2⟩ := body_counts h'
  rw [e4, b1] at c1
  rw [e4, b2] at c2
  have hk : c.kd = c'.kd := by
    rcases may_kind h with k | k | k | k <;> rcases may_kind h' with k' | k' | k' | k' <;> (have a := k.1; have b := k'.1; first | omega | (exfalso; simp [a, b] at c1 c2))
  clear c1 c2 b1 b2 e e1 e2 e3 ed en
  have hmk := may_kind h
  have hmk' := may_kind h'
  clear h h' h1 h2 h3 h4 h5 g1 g2 g3 g4 g5
  obtain ⟨d, q, nm, kd, wh, ao, an, bo, bn⟩ := c
  obtain ⟨d', q', nm', kd', wh', ao', an', bo', bn'⟩ := c'
  simp only at hd hn hk hmk hmk' ⊢
  subst hd hn hk
  rcases hmk with ⟨rfl, m1, rfl, rfl, rfl, rfl⟩ | ⟨rfl, rfl, m1, rfl, rfl⟩ | ⟨rfl, rfl, rfl, m1, rfl, m2⟩ | ⟨rfl, rfl, m1, m2⟩
  · obtain ⟨-, n1, rfl, rfl, rfl, rfl⟩ := hmk'.resolve_right (by omega)
    rw [textBody_1 rfl, textBody_1 rfl] at e4
    simp only at e4
    rw [ba_eq e4]
  · obtain ⟨-, rfl, n1, rfl, rfl⟩ := (hmk'.resolve_left (by omega)).resolve_right (by omega)
    rw [textBody_2 rfl, textBody_2 rfl] at e4
    simp only at e4
    obtain ⟨a, b⟩ := split_uniq (role_count m1 46 l46 d46).1 (role_count n1 46 l46 d46).1 e4
    rw [ba_eq a, ba_eq b]
  · obtain ⟨-, rfl, rfl, n1, rfl, n2⟩ := ((hmk'.resolve_left (by omega)).resolve_left (by omega)).resolve_right (by omega)
    rw [textBody_3 rfl, textBody_3 rfl] at e4
    simp only at e4
    have e5 := List.append_cancel_left e4
    simp only [List.cons.injEq, true_and] at e5
    obtain ⟨a, b⟩ := split_uniq (may_count m1 46 l46 d46) (may_count n1 46 l46 d46) e5
    rw [ba_eq a, ba_eq b]
  · obtain ⟨-, rfl, n1, n2⟩ := ((hmk'.resolve_left (by omega)).resolve_left (by omega)).resolve_left (by omega)
    rw [textBody_4 rfl, textBody_4 rfl] at e4
    simp only at e4
    obtain ⟨a, b⟩ := split_uniq (role_count m1 46 l46 d46).1 (role_count n1 46 l46 d46).1 e4
    obtain ⟨a2, b2⟩ := split_uniq (role_count m1 32 l32 d32).2 (role_count n1 32 l32 d32).2 b
    simp only [List.cons.injEq, true_and] at b2
    obtain ⟨a3, b3⟩ := split_uniq (role_count m2 46 l46 d46).1 (role_count n2 46 l46 d46).1 b2
    rw [ba_eq a, ba_eq a2, ba_eq a3, ba_eq b3]
end Go.Proofs.YtaadmgbmaekicaaGreatDoor.Sh
