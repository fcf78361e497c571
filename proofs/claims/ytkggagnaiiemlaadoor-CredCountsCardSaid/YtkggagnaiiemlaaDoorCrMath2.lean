/-
  Credentials: what is read was put; texts apart. Plain lemmas.
-/
import Derived.Test.YtkggagnaiiemlaaDoorCrMath
namespace Go.Proofs.YtkggagnaiiemlaaDoor.Sh
open Go Go.RowKit

theorem num_back {l : List UInt8} {p p' : Nat} {e lo hi V : Int} (h : numStep l p e lo hi = (V, p', 0)) :
    e = 0 ∧ ∃ N : Nat, V = (N : Int) ∧ N < 9223372036854775808 ∧ lo ≤ V ∧ V ≤ hi ∧ l.drop p = enc N ++ l.drop p' ∧ p' = p + (enc N).length := by
  unfold numStep at h
  by_cases he : e = 0
  · refine ⟨he, ?_⟩
    rw [if_neg (by simp [he])] at h
    by_cases h2 : (look (l.drop p)).2.2 = 0
    · rw [if_neg (by simp [h2])] at h
      by_cases h3 : ((look (l.drop p)).1 : Int) < lo ∨ hi < ((look (l.drop p)).1 : Int)
      · rw [if_pos h3] at h
        simp at h
      · rw [if_neg h3] at h
        simp only [Prod.mk.injEq, and_true] at h
        have hk : look (l.drop p) = ((look (l.drop p)).1, (look (l.drop p)).2.1, 0) := by rw [← h2]
        obtain ⟨g1, g2, g3, g4⟩ := look_ok hk
        refine ⟨(look (l.drop p)).1, h.1.symm, g1, by omega, by omega, ?_, by rw [← g4]; exact h.2.symm⟩
        rw [← g3, ← h.2, ← List.drop_drop, List.take_append_drop]
    · rw [if_pos h2] at h
      simp only [Prod.mk.injEq] at h
      exact absurd h.2.2 h2
  · rw [if_pos he] at h
    simp only [Prod.mk.injEq] at h
    exact absurd h.2.2 he
theorem text_back {l S : List UInt8} {p p' : Nat} {e : Int} (h : textStep l p e 8 = (S, p', 0)) :
    e = 0 ∧ l.drop p = encText (bL S) ++ l.drop p' ∧ p' = p + (encText (bL S)).length := by
  unfold textStep at h
  by_cases he : e = 0
  · refine ⟨he, ?_⟩
    rw [if_neg (by simp [he])] at h
    by_cases h2 : (look (l.drop p)).2.2 = 0
    · rw [if_neg (by simp [h2])] at h
      split at h
      · simp at h
      · split at h
        · simp at h
        · rename_i h3 h4
          simp only [Prod.mk.injEq, and_true] at h
          have hk : look (l.drop p) = ((look (l.drop p)).1, (look (l.drop p)).2.1, 0) := by rw [← h2]
          obtain ⟨g1, g2, g3, g4⟩ := look_ok hk
          generalize (look (l.drop p)).1 = N at *
          generalize (look (l.drop p)).2.1 = u at *
          obtain ⟨rfl, rfl⟩ := h
          rw [List.length_drop] at g2
          have hsz : (bL ((l.drop (p + u)).take N)).size = N := by
            rw [← size_list]
            show ((l.drop (p + u)).take N).length = N
            rw [List.length_take, List.length_drop]
            omega
          have hlen : (encText (bL ((l.drop (p + u)).take N))).length = u + N := by rw [encText_length, hsz, g4]
          refine ⟨?_, by rw [hlen]; omega⟩
          rw [encText, hsz, ← g3]
          show l.drop p = (l.drop p).take u ++ (l.drop (p + u)).take N ++ l.drop (p + u + N)
          rw [← List.drop_drop (i := N) (j := p + u), List.append_assoc, List.take_append_drop, ← List.drop_drop, List.take_append_drop]
    · rw [if_pos h2] at h
      simp only [Prod.mk.injEq] at h
      exact absurd h.2.2 h2
  · rw [if_pos he] at h
    simp only [Prod.mk.injEq] at h
    exact absurd h.2.2 he
theorem name_back {l S : List UInt8} {p p' : Nat} {e : Int} (h : nameStep l p e = (S, p', 0)) :
    e = 0 ∧ mayL S = true ∧ l.drop p = encText (bL S) ++ l.drop p' ∧ p' = p + (encText (bL S)).length := by
  unfold nameStep at h
  simp only [Prod.mk.injEq] at h
  obtain ⟨h1, h2, h3⟩ := h
  rw [h1] at h3
  by_cases hm : mayL S = true
  · rw [if_pos hm] at h3
    have ht : textStep l p e 8 = (S, p', 0) := by rw [← h1, ← h2, ← h3]
    obtain ⟨g1, g2, g3⟩ := text_back ht
    exact ⟨g1, hm, g2, g3⟩
  · rw [if_neg hm] at h3
    split at h3
    · simp at h3
    · rename_i h4
      exact absurd h3 h4
theorem role_back {l o n : List UInt8} {p p' : Nat} {e : Int} (h : roleStep l p e = ((o, n), p', 0)) :
    e = 0 ∧ roleL o n = true ∧ l.drop p = putR (bL o) (bL n) ++ l.drop p' ∧ p' = p + (putR (bL o) (bL n)).length := by
  unfold roleStep at h
  obtain ⟨V, p1, e1, hx⟩ : ∃ V p1 e1, numStep l p e 1 16 = (V, p1, e1) := ⟨_, _, _, rfl⟩
  rw [hx] at h
  simp only at h
  obtain ⟨S, p2, e2, hy⟩ : ∃ S p2 e2, nameStep l p1 e1 = (S, p2, e2) := ⟨_, _, _, rfl⟩
  rw [hy] at h
  simp only [Prod.mk.injEq] at h
  obtain ⟨⟨rfl, rfl⟩, rfl, rfl⟩ := h
  obtain ⟨rfl, hm, d2, q2⟩ := name_back hy
  obtain ⟨rfl, N, rfl, hN, l1, l2, d1, q1⟩ := num_back hx
  have hn : numL (domL (N : Int)) = N := by rw [numL_domL _ l1 l2]; simp
  refine ⟨rfl, ?_, ?_, ?_⟩
  · unfold roleL
    rw [hm, hn]
    simp; omega
  · rw [d1, d2, putR]
    show _ = enc (numL (domL (N : Int))) ++ encText (bL S) ++ _
    rw [hn, List.append_assoc]
  · rw [q2, q1, putR, List.length_append]
    show _ = _ + ((enc (numL (domL (N : Int)))).length + _)
    rw [hn]
    omega
/-- What is read may be, and was put. -/
theorem readC_back {l : List UInt8} {c : Crd} {p : Nat} (h : readC l 0 0 = (c, p, 0)) : mayC c = true ∧ l.take p = putC c ∧ p ≤ l.length ∧ p = (putC c).length := by
  unfold readC fin at h
  simp only [Prod.mk.injEq] at h
  obtain ⟨h1, h2⟩ := h
  have hc : rawC l 0 0 = (c, p, 0) := by
    have h3 : (rawC l 0 0).2.2 = 0 := by rw [h2]
    rw [if_pos h3] at h1
    rw [← h1, ← h2]
  clear h1 h2
  have key : mayC c = true ∧ l.drop 0 = putC c ++ l.drop p ∧ p = (putC c).length := by
    unfold rawC at hc
    simp only at hc
    obtain ⟨d, p1, e1, hx1⟩ : ∃ d p1 e1, numStep l 0 0 1 16 = (d, p1, e1) := ⟨_, _, _, rfl⟩
    rw [hx1] at hc
    simp only at hc
    obtain ⟨q, p2, e2, hx2⟩ : ∃ q p2 e2, numStep l p1 e1 1 4000 = (q, p2, e2) := ⟨_, _, _, rfl⟩
    rw [hx2] at hc
    simp only at hc
    obtain ⟨nm, p3, e3, hx3⟩ : ∃ nm p3 e3, nameStep l p2 e2 = (nm, p3, e3) := ⟨_, _, _, rfl⟩
    rw [hx3] at hc
    simp only at hc
    obtain ⟨kd, p4, e4, hx4⟩ : ∃ kd p4 e4, numStep l p3 e3 1 4 = (kd, p4, e4) := ⟨_, _, _, rfl⟩
    rw [hx4] at hc
    simp only at hc
    -- the head, once the body's error is none
    have head : e4 = 0 → ∃ D Q K : Nat, d = (D : Int) ∧ q = (Q : Int) ∧ kd = (K : Int) ∧ 1 ≤ d ∧ d ≤ 16 ∧ 1 ≤ q ∧ q ≤ 4000 ∧ mayL nm = true ∧ 1 ≤ kd ∧ kd ≤ 4 ∧
        l.drop 0 = enc D ++ (enc Q ++ (encText (bL nm) ++ (enc K ++ l.drop p4))) ∧ p4 = (enc D).length + ((enc Q).length + ((encText (bL nm)).length + (enc K).length)) := by
      rintro rfl
      obtain ⟨rfl, K, rfl, _, k1, k2, d4, q4⟩ := num_back hx4
      obtain ⟨rfl, hm, d3, q3⟩ := name_back hx3
      obtain ⟨rfl, Q, rfl, _, m1, m2, d2, q2⟩ := num_back hx2
      obtain ⟨_, D, rfl, _, n1, n2, d1, q1⟩ := num_back hx1
      exact ⟨D, Q, K, rfl, rfl, rfl, n1, n2, m1, m2, hm, k1, k2, by rw [d1, d2, d3, d4], by omega⟩
    have finish : ∀ (c : Crd) (body : List UInt8) (p : Nat), c.d = d → c.q = q → c.nm = bL nm → c.kd = kd → e4 = 0 → kindOk c = true → putBody c = body → l.drop p4 = body ++ l.drop p → p = p4 + body.length →
        mayC c = true ∧ l.drop 0 = putC c ++ l.drop p ∧ p = (putC c).length := by
      intro c body p hd hq hn hk he hko hb hdr hp
      obtain ⟨D, Q, K, i1, i2, i3, n1, n2, m1, m2, hm, k1, k2, hl, hp4⟩ := head he
      have ePut : putC c = enc D ++ (enc Q ++ (encText (bL nm) ++ (enc K ++ body))) := by
        unfold putC
        rw [hd, hq, hn, hk, hb, i1, i2, i3]
        simp
      refine ⟨?_, ?_, ?_⟩
      · unfold mayC headOk mayB
        rw [hd, hq, hn, hko]
        have : mayL (bL nm).data.toList = true := hm
        rw [this]
        simp; omega
      · rw [hl, ePut, hdr]; simp
      · rw [ePut, hp, hp4]; simp; omega
    unfold bodyStep at hc
    split at hc
    · rename_i hk
      obtain ⟨S, p5, e5, hy⟩ : ∃ S p5 e5, nameStep l p4 e4 = (S, p5, e5) := ⟨_, _, _, rfl⟩
      rw [hy] at hc
      simp only [Prod.mk.injEq] at hc
      obtain ⟨rfl, rfl, rfl⟩ := hc
      obtain ⟨he, hm, d5, q5⟩ := name_back hy
      refine finish _ (encText (bL S)) _ rfl rfl rfl rfl he ?_ ?_ d5 q5
      · unfold kindOk mayB
        simp only
        rw [if_pos hk]
        have : mayL (bL S).data.toList = true := hm
        rw [this]; simp
      · unfold putBody; simp only; rw [if_pos hk]
    · rename_i hk1
      split at hc
      · rename_i hk
        obtain ⟨⟨o, n⟩, p5, e5, hy⟩ : ∃ S q5 r5, roleStep l p4 e4 = (S, q5, r5) := ⟨_, _, _, rfl⟩
        rw [hy] at hc
        simp only [Prod.mk.injEq] at hc
        obtain ⟨rfl, rfl, rfl⟩ := hc
        obtain ⟨he, hm, d5, q5⟩ := role_back hy
        refine finish _ (putR (bL o) (bL n)) _ rfl rfl rfl rfl he ?_ ?_ d5 q5
        · unfold kindOk roleB
          simp only
          rw [if_neg hk1, if_pos hk]
          have : roleL (bL o).data.toList (bL n).data.toList = true := hm
          rw [this]; simp
        · unfold putBody; simp only; rw [if_neg hk1, if_pos hk]
      · rename_i hk2
        split at hc
        · rename_i hk
          obtain ⟨S, p5, e5, hy⟩ : ∃ S p5 e5, nameStep l p4 e4 = (S, p5, e5) := ⟨_, _, _, rfl⟩
          rw [hy] at hc
          simp only at hc
          obtain ⟨S2, p6, e6, hz⟩ : ∃ S p6 e6, nameStep l p5 e5 = (S, p6, e6) := ⟨_, _, _, rfl⟩
          rw [hz] at hc
          simp only [Prod.mk.injEq] at hc
          obtain ⟨rfl, rfl, rfl⟩ := hc
          obtain ⟨rfl, hm2, d6, q6⟩ := name_back hz
          obtain ⟨he, hm, d5, q5⟩ := name_back hy
          refine finish _ (encText (bL S) ++ encText (bL S2)) _ rfl rfl rfl rfl he ?_ ?_ (by rw [d5, d6, List.append_assoc]) (by rw [q6, q5, List.length_append, Nat.add_assoc])
          · unfold kindOk mayB
            simp only
            rw [if_neg hk1, if_neg hk2, if_pos hk]
            have t1 : mayL (bL S).data.toList = true := hm
            have t2 : mayL (bL S2).data.toList = true := hm2
            rw [t1, t2]; simp
          · unfold putBody; simp only; rw [if_neg hk1, if_neg hk2, if_pos hk]
        · rename_i hk3
          split at hc
          · rename_i hk
            obtain ⟨⟨o, n⟩, p5, e5, hy⟩ : ∃ S q5 r5, roleStep l p4 e4 = (S, q5, r5) := ⟨_, _, _, rfl⟩
            rw [hy] at hc
            simp only at hc
            obtain ⟨⟨o2, n2⟩, p6, e6, hz⟩ : ∃ S q6 r6, roleStep l p5 e5 = (S, q6, r6) := ⟨_, _, _, rfl⟩
            rw [hz] at hc
            simp only [Prod.mk.injEq] at hc
            obtain ⟨rfl, rfl, rfl⟩ := hc
            obtain ⟨rfl, hm2, d6, q6⟩ := role_back hz
            obtain ⟨he, hm, d5, q5⟩ := role_back hy
            refine finish _ (putR (bL o) (bL n) ++ putR (bL o2) (bL n2)) _ rfl rfl rfl rfl he ?_ ?_ (by rw [d5, d6, List.append_assoc]) (by rw [q6, q5, List.length_append, Nat.add_assoc])
            · unfold kindOk roleB
              simp only
              rw [if_neg hk1, if_neg hk2, if_neg hk3, if_pos hk]
              have t1 : roleL (bL o).data.toList (bL n).data.toList = true := hm
              have t2 : roleL (bL o2).data.toList (bL n2).data.toList = true := hm2
              rw [t1, t2]; simp
            · unfold putBody; simp only; rw [if_neg hk1, if_neg hk2, if_neg hk3, if_pos hk]
          · rename_i hk4
            simp only [Prod.mk.injEq] at hc
            obtain ⟨_, _, rfl⟩ := hc
            obtain ⟨_, _, _, _, _, _, _, _, _, _, _, k1, k2, _⟩ := head rfl
            omega
  obtain ⟨k1, k2, k3⟩ := key
  rw [List.drop_zero] at k2
  refine ⟨k1, ?_, ?_, k3⟩
  · conv => lhs; rw [k2]
    rw [k3]; simp
  · have := congrArg List.length k2
    rw [List.length_append] at this
    omega

/-! ### texts apart -/
theorem may_bytes {l : List UInt8} (h : mayL l = true) : ∀ x ∈ l, letter x = true ∨ digit x = true := by
  cases l with
  | nil => intro x hx; cases hx
  | cons y t =>
    rw [mayL_cons] at h
    simp only [Bool.and_eq_true, decide_eq_true_eq, List.all_eq_true] at h
    intro x hx
    rcases List.mem_cons.1 hx with rfl | hx
    · exact .inl h.1.1
    · have := h.1.2 x hx
      unfold okName at this
      rwa [Bool.or_eq_true] at this
theorem may_count {l : List UInt8} (h : mayL l = true) (s : UInt8) (hs : letter s = false) (hs2 : digit s = false) : l.count s = 0 := by
  rw [List.count_eq_zero]
  intro hm
  rcases may_bytes h s hm with k | k
  · rw [hs] at k; cases k
  · rw [hs2] at k; cases k
theorem dom_count (d : Int) (h1 : 1 ≤ d) (h2 : d ≤ 16) (s : UInt8) (hs : letter s = false) (hs2 : digit s = false) : (domL d).count s = 0 := may_count (domL_may d h1 h2) s hs hs2
theorem split_uniq {s : UInt8} {a a' t t' : List UInt8} (h : a.count s = 0) (h' : a'.count s = 0) (e : a ++ s :: t = a' ++ s :: t') : a = a' ∧ t = t' := by
  induction a generalizing a' with
  | nil =>
    cases a' with
    | nil => simp at e; exact ⟨rfl, e⟩
    | cons y u =>
      simp only [List.nil_append, List.cons_append, List.cons.injEq] at e
      rw [← e.1] at h'
      simp at h'
  | cons x u ih =>
    cases a' with
    | nil =>
      simp only [List.nil_append, List.cons_append, List.cons.injEq] at e
      rw [e.1] at h
      simp at h
    | cons y v =>
      simp only [List.cons_append, List.cons.injEq] at e
      obtain ⟨rfl, e⟩ := e
      have hu : u.count s = 0 := by rw [List.count_cons] at h; omega
      have hv : v.count s = 0 := by rw [List.count_cons] at h'; omega
      obtain ⟨k1, k2⟩ := ih hu hv e
      exact ⟨by rw [k1], k2⟩
end Go.Proofs.YtkggagnaiiemlaaDoor.Sh
