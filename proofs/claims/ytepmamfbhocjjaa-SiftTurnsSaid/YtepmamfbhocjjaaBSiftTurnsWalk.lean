/-
  Texts laid together: SiftTurnsWalk.
-/
import Derived.Test.YtepmamfbhocjjaaBSgd
import Derived.Test.YtepmamfbhocjjaaBHnd
import Derived.Deep.CutRange
section
/-
  The law SiftTurns, walked: descending is ascending the other way round; the order in which records are handed in counts for nothing.
-/
namespace Go.Proofs.Ytepmamfbhocjjaa.siftTurns
open Go.ChangeShapes Go.WideShapes Go.ChangeAt Go.RowKit
set_option linter.unusedVariables false
set_option linter.unusedSimpArgs false
/-- The query the other way round. -/
def downQ (q : Qy) : Qy := { q with desc := !q.desc }
theorem down_sift {q : Qy} (hl : q.limit = 0) {xs : List Kv} (hU : Unl xs) : (siftQ (downQ q) xs).1 = (siftQ q xs).1.reverse := by
  have hr : rightQ (downQ q) = rightQ q := rfl
  have hm : ∀ n, manyQ q n = n := fun n => by simp [manyQ, hl]
  have hm2 : ∀ n, manyQ (downQ q) n = n := fun n => by simp [manyQ, downQ, hl]
  have ht : allQ (downQ q) xs = (allQ q xs).reverse := allQ_turn hU rfl rfl (fun _ => rfl)
  have hs : stripQ (downQ q) = stripQ q := rfl
  unfold siftQ
  rw [hr, hm, hm2, List.take_length, List.take_length, ht, hs]
  split
  · split
    · split
      · rfl
      · rename_i h1 h2
        exact absurd h1 h2
    · split
      · rename_i h1 h2
        exact absurd h2 h1
      · exact List.map_reverse
  · rfl
theorem sift_few (q : Qy) (xs : List Kv) : (siftQ q xs).1.length ≤ xs.length := by
  unfold siftQ
  split
  · split
    · simp
    · show (List.map _ _).length ≤ _
      rw [List.length_map, List.length_take, allQ_len]
      have := List.length_filter_le (keepsQ q) xs
      omega
  · simp
theorem at_k (a : Int) (n : Nat) (h0 : 0 < n) (hn : n ≤ 60) : ∃ k : Nat, k < n ∧ wrap64 ((IntKind.u64.wrap a).tmod (n : Int)) = (k : Int) := by
  rw [IntKind.wrap_u64]
  have h1 : 0 ≤ a % 18446744073709551616 := by omega
  have e : (a % 18446744073709551616).tmod (n : Int) = a % 18446744073709551616 % (n : Int) := Int.tmod_eq_emod_of_nonneg h1
  rw [e]
  have hr0 : 0 ≤ a % 18446744073709551616 % (n : Int) := Int.emod_nonneg _ (by omega)
  have hr1 : a % 18446744073709551616 % (n : Int) < (n : Int) := Int.emod_lt_of_pos _ (by omega)
  refine ⟨(a % 18446744073709551616 % (n : Int)).toNat, by omega, ?_⟩
  rw [IntWalk.wrap64_in _ ⟨by omega, by omega⟩]
  omega
theorem rd_cell {w : World} {b o n : Nat} {ps : List (LayV × Kv)} (h : RdKs w (some ⟨b, o, none⟩) n ps) (j : Nat) (u : Value) (hj : (flatP ps)[j]? = some u) : w.cell? ⟨b, o + j, none⟩ = some u := by
  have hl : j < (flatP ps).length := (List.getElem?_eq_some_iff.1 hj).1
  rw [flatP_len] at hl
  obtain ⟨i, r, rfl, hr⟩ : ∃ i r, j = i * 6 + r ∧ r < 6 := ⟨j / 6, j % 6, by omega, by omega⟩
  have hi : i < ps.length := by omega
  obtain ⟨b', o', e, h0, h1, h2, h3, h4, h5⟩ := h.at_ i hi
  injection e with e
  injection e with e1 e2 _
  subst e1 e2
  unfold flatP at hj
  rw [flat_at (fun p : LayV × Kv => cellsV p.1 p.2) 6 (fun _ => rfl) ps i hi r hr] at hj
  rw [← Nat.add_assoc]
  match r, hr with
  | 0, _ => cases hj; exact h0
  | 1, _ => cases hj; exact h1
  | 2, _ => cases hj; exact h2
  | 3, _ => cases hj; exact h3
  | 4, _ => cases hj; exact h4
  | 5, _ => cases hj; exact h5
theorem flat_drop {ps : List (LayV × Kv)} {k : Nat} (hk : k ≤ ps.length) (j : Nat) : (flatP (ps.drop k))[j]? = (flatP ps)[k * 6 + j]? := by
  have e : flatP ps = flatP (ps.take k) ++ flatP (ps.drop k) := by
    unfold flatP
    rw [← List.flatMap_append, List.take_append_drop]
  have hl : (flatP (ps.take k)).length = k * 6 := by rw [flatP_len, List.length_take]; congr 1; omega
  rw [e, List.getElem?_append_right (by omega), hl]
  congr 1
  omega
/-- Two boxes of queries, and a world B from which on all is new. -/
structure TrD (W B w : World) (L : LayQ) (q q2 : Qy) : Prop where
  bel : Below W.heap.size W w
  blw : Below B.heap.size B w
  qa : QyB w W.heap.size L q
  qb_ : QyB w B.heap.size L q2
  le : W.heap.size < B.heap.size
section
variable {W B w w' : World} {L : LayQ} {q q2 : Qy}
theorem TrD.below (h : TrD W B w L q q2) (hb : Below w.heap.size w w') : TrD W B w' L q q2 := ⟨bel_to hb h.bel, bel_to hb h.blw, h.qa.below_ hb h.qa.lt, h.qb_.below_ hb h.qb_.lt, h.le⟩
theorem TrD.set {g : Nat} (h : TrD W B w L q q2) {cs : List Value} (hg : Blk w g 30 cs) (hl : B.heap.size ≤ g) {X : World} {u0 u1 u2 : Value} (hX : X = set3 w g u0 u1 u2) : TrD W B X L q q2 := by
  subst hX
  have ht := set3_turned w g u0 u1 u2
  exact ⟨Turned.only_new h.bel ht h.bel.size (fun i hi => by rw [hi]; exact Nat.le_trans (Nat.le_of_lt h.le) hl), Turned.only_new h.blw ht h.blw.size (fun i hi => by rw [hi]; exact hl), ht.blk h.qa (res_ne h.qa hg (by decide)), ht.blk h.qb_ (res_ne h.qb_ hg (by decide)), h.le⟩
theorem TrD.reg (h : TrD W B w L q q2) : (w.cell? ⟨W.heap.size, 0, none⟩ = some (.slice L.ka L.kn L.kc) ∧ w.cell? ⟨W.heap.size, 1, none⟩ = some (.slice L.ea L.en L.ec) ∧ w.cell? ⟨W.heap.size, 2, none⟩ = some (.int .i64 L.at_) ∧ w.cell? ⟨W.heap.size, 3, none⟩ = some (.int .i64 q.limit) ∧ w.cell? ⟨W.heap.size, 4, none⟩ = some (.int .i64 q.sort) ∧ w.cell? ⟨W.heap.size, 5, none⟩ = some (.bool q.desc) ∧ w.cell? ⟨W.heap.size, 6, none⟩ = some (.bool q.keys) ∧ w.cell? ⟨W.heap.size, 7, none⟩ = some (.bool q.count) ∧ w.cell? ⟨W.heap.size, 8, none⟩ = some (.int .i64 q.m0) ∧ w.cell? ⟨W.heap.size, 9, none⟩ = some (.int .i64 q.m1) ∧ w.cell? ⟨W.heap.size, 10, none⟩ = some (.int .i64 q.c0) ∧ w.cell? ⟨W.heap.size, 11, none⟩ = some (.int .i64 q.c1)) ∧ (w.cell? ⟨B.heap.size, 0, none⟩ = some (.slice L.ka L.kn L.kc) ∧ w.cell? ⟨B.heap.size, 1, none⟩ = some (.slice L.ea L.en L.ec) ∧ w.cell? ⟨B.heap.size, 2, none⟩ = some (.int .i64 L.at_) ∧ w.cell? ⟨B.heap.size, 3, none⟩ = some (.int .i64 q2.limit) ∧ w.cell? ⟨B.heap.size, 4, none⟩ = some (.int .i64 q2.sort) ∧ w.cell? ⟨B.heap.size, 5, none⟩ = some (.bool q2.desc) ∧ w.cell? ⟨B.heap.size, 6, none⟩ = some (.bool q2.keys) ∧ w.cell? ⟨B.heap.size, 7, none⟩ = some (.bool q2.count) ∧ w.cell? ⟨B.heap.size, 8, none⟩ = some (.int .i64 q2.m0) ∧ w.cell? ⟨B.heap.size, 9, none⟩ = some (.int .i64 q2.m1) ∧ w.cell? ⟨B.heap.size, 10, none⟩ = some (.int .i64 q2.c0) ∧ w.cell? ⟨B.heap.size, 11, none⟩ = some (.int .i64 q2.c1)) := ⟨h.qa.all, h.qb_.all⟩
/-- An answer of a call that tells these records. -/
def Rs (w : World) (v : Value) (i : Int) (m : Bool) (l : List Kv) : Prop := ∃ A k c ps, v = .agg #[.slice A k c, .int .i64 i, .bool m] ∧ RdKs w A k ps ∧ ps.map Prod.snd = l ∧ k ≤ c
theorem Rs.below {v : Value} {i : Int} {m : Bool} {l : List Kv} (h : Rs w v i m l) (hb : Below w.heap.size w w') : Rs w' v i m l := by
  obtain ⟨A, k, c, ps, e, r, h1, h2⟩ := h
  exact ⟨A, k, c, ps, e, r.below hb, h1, h2⟩
/-- A box for a result, new since B. -/
def Zs (B w : World) (v : Value) : Prop := ∃ g, v = .pointer (some ⟨g, 0, none⟩) ∧ Blk w g 30 zR ∧ B.heap.size ≤ g
theorem Zs.below {v : Value} (h : Zs B w v) (hb : Below w.heap.size w w') : Zs B w' v := by
  obtain ⟨g, e, z, l⟩ := h
  exact ⟨g, e, Blk.below z hb z.lt, l⟩
theorem Zs.ne {v : Value} (h : Zs B w v) : v ≠ .pointer (some ⟨w.heap.size, 0, none⟩) := by
  obtain ⟨g, rfl, z, l⟩ := h
  intro e
  injection e with e
  injection e with e
  injection e with e
  exact absurd e (Nat.ne_of_lt z.lt)
structure JJ (W B : World) (L : LayQ) (q q2 : Qy) (i : Int) (m : Bool) (i3 : Int) (m3 : Bool) (l l3 : List Kv) (n : Nat) (b0 b1 b2 : Bool) (s10 s11 s12 s52 s55 s58 : Value) (w : World) : Prop where
  d : TrD W B w L q q2
  r1 : 1 ≤ n → Rs w s52 i m l
  r2 : 2 ≤ n → Rs w s55 i m l
  r3 : 3 ≤ n → Rs w s58 i3 m3 l3
  z0 : b0 = true → Zs B w s10
  z1 : b1 = true → Zs B w s11
  z2 : b2 = true → Zs B w s12
  n01 : b0 = true → b1 = true → s10 ≠ s11
  n02 : b0 = true → b2 = true → s10 ≠ s12
  n12 : b1 = true → b2 = true → s11 ≠ s12
variable {i i3 : Int} {m m3 : Bool} {l l3 : List Kv} {n : Nat} {b0 b1 b2 : Bool} {s10 s11 s12 s52 s55 s58 : Value}
theorem JJ.below (h : JJ W B L q q2 i m i3 m3 l l3 n b0 b1 b2 s10 s11 s12 s52 s55 s58 w) (hb : Below w.heap.size w w') : JJ W B L q q2 i m i3 m3 l l3 n b0 b1 b2 s10 s11 s12 s52 s55 s58 w' :=
  ⟨h.d.below hb, fun e => (h.r1 e).below hb, fun e => (h.r2 e).below hb, fun e => (h.r3 e).below hb, fun e => (h.z0 e).below hb, fun e => (h.z1 e).below hb, fun e => (h.z2 e).below hb, h.n01, h.n02, h.n12⟩
theorem JJ.c1 (h : JJ W B L q q2 i m i3 m3 l l3 0 b0 b1 b2 s10 s11 s12 s52 s55 s58 w) {v : Value} (hr : Rs w v i m l) : JJ W B L q q2 i m i3 m3 l l3 1 b0 b1 b2 s10 s11 s12 v s55 s58 w :=
  ⟨h.d, fun _ => hr, fun e => absurd e (by omega), fun e => absurd e (by omega), h.z0, h.z1, h.z2, h.n01, h.n02, h.n12⟩
theorem JJ.c2 (h : JJ W B L q q2 i m i3 m3 l l3 1 b0 b1 b2 s10 s11 s12 s52 s55 s58 w) {v : Value} (hr : Rs w v i m l) : JJ W B L q q2 i m i3 m3 l l3 2 b0 b1 b2 s10 s11 s12 s52 v s58 w :=
  ⟨h.d, fun _ => h.r1 (Nat.le_refl _), fun _ => hr, fun e => absurd e (by omega), h.z0, h.z1, h.z2, h.n01, h.n02, h.n12⟩
theorem JJ.c3 (h : JJ W B L q q2 i m i3 m3 l l3 2 b0 b1 b2 s10 s11 s12 s52 s55 s58 w) {v : Value} (hr : Rs w v i3 m3 l3) : JJ W B L q q2 i m i3 m3 l l3 3 b0 b1 b2 s10 s11 s12 s52 s55 v w :=
  ⟨h.d, fun _ => h.r1 (by omega), fun _ => h.r2 (Nat.le_refl _), fun _ => hr, h.z0, h.z1, h.z2, h.n01, h.n02, h.n12⟩
theorem zs_new {X : World} (h : X = w.alloc (.cells #[.slice none 0 0, .int .i64 0, .bool false] 30)) (hl : B.heap.size ≤ w.heap.size) : Below w.heap.size w X ∧ Zs B X (.pointer (some ⟨w.heap.size, 0, none⟩)) := by
  obtain ⟨hb, hz⟩ := zr_new h
  exact ⟨hb, _, rfl, hz, hl⟩
theorem JJ.w0 (h : JJ W B L q q2 i m i3 m3 l l3 n false b1 b2 s10 s11 s12 s52 s55 s58 w) {X : World} (hX : X = w.alloc (.cells #[.slice none 0 0, .int .i64 0, .bool false] 30)) : JJ W B L q q2 i m i3 m3 l l3 n true b1 b2 (.pointer (some ⟨w.heap.size, 0, none⟩)) s11 s12 s52 s55 s58 X := by
  obtain ⟨hb, hz⟩ := zs_new (B := B) hX h.d.blw.size
  have k := h.below hb
  exact ⟨k.d, k.r1, k.r2, k.r3, fun _ => hz, k.z1, k.z2, fun _ e => ((h.z1 e).ne).symm, fun _ e => ((h.z2 e).ne).symm, k.n12⟩
theorem JJ.w1 (h : JJ W B L q q2 i m i3 m3 l l3 n b0 false b2 s10 s11 s12 s52 s55 s58 w) {X : World} (hX : X = w.alloc (.cells #[.slice none 0 0, .int .i64 0, .bool false] 30)) : JJ W B L q q2 i m i3 m3 l l3 n b0 true b2 s10 (.pointer (some ⟨w.heap.size, 0, none⟩)) s12 s52 s55 s58 X := by
  obtain ⟨hb, hz⟩ := zs_new (B := B) hX h.d.blw.size
  have k := h.below hb
  exact ⟨k.d, k.r1, k.r2, k.r3, k.z0, fun _ => hz, k.z2, fun e _ => (h.z0 e).ne, k.n02, fun _ e => ((h.z2 e).ne).symm⟩
theorem JJ.w2 (h : JJ W B L q q2 i m i3 m3 l l3 n b0 b1 false s10 s11 s12 s52 s55 s58 w) {X : World} (hX : X = w.alloc (.cells #[.slice none 0 0, .int .i64 0, .bool false] 30)) : JJ W B L q q2 i m i3 m3 l l3 n b0 b1 true s10 s11 (.pointer (some ⟨w.heap.size, 0, none⟩)) s52 s55 s58 X := by
  obtain ⟨hb, hz⟩ := zs_new (B := B) hX h.d.blw.size
  have k := h.below hb
  exact ⟨k.d, k.r1, k.r2, k.r3, k.z0, k.z1, fun _ => hz, k.n01, fun e _ => (h.z0 e).ne, fun e _ => (h.z1 e).ne⟩
theorem JJ.new (h : TrD W B w L q q2) : JJ W B L q q2 i m i3 m3 l l3 0 false false false s10 s11 s12 s52 s55 s58 w :=
  ⟨h, fun e => absurd e (by omega), fun e => absurd e (by omega), fun e => absurd e (by omega), fun e => (by cases e), fun e => (by cases e), fun e => (by cases e), fun e => (by cases e), fun e => (by cases e), fun e => (by cases e)⟩
end
theorem TrD.turn {W B w : World} {L : LayQ} {q : Qy} (h : TrD W B w L q q) : TrD W B (w.setCell ⟨B.heap.size, 5, none⟩ (.bool (!q.desc))) L q (downQ q) := by
  have ht : Turned w (w.setCell ⟨B.heap.size, 5, none⟩ (.bool (!q.desc))) (fun j => j = B.heap.size) := (Turned.refl w (fun j => j = B.heap.size)).setCell (p := ⟨B.heap.size, 5, none⟩) (fun _ => rfl) _
  exact ⟨h.bel.setCell (p := ⟨B.heap.size, 5, none⟩) (Nat.le_of_lt h.le) _, h.blw.setCell (p := ⟨B.heap.size, 5, none⟩) (Nat.le_refl _) _, ht.blk h.qa (Nat.ne_of_lt h.le), h.qb_.set_ 5 (.bool (!q.desc)), h.le⟩
theorem rot_step {W w w' : World} {L : LayQ} {q : Qy} {base m : Nat} {v : Value} {xs : List Value} (h : Below W.heap.size W w) (hq : QyB w W.heap.size L q) (own : w.ownsRow base 37 6 v m xs) (hb : W.heap.size + 1 ≤ base) (g : w.grownBy w' v.ownBlock) : Below W.heap.size W w' ∧ QyB w' W.heap.size L q :=
  ⟨h.grown g h.size (fun y hy => by have := (gown_lt own hy).1; omega), (g.block W.heap.size hq.lt (fun e => absurd (gown_lt own e.symm).1 (by omega))).trans hq⟩
theorem rot_new (w : World) : (w.alloc (.cells #[] 37)).ownsRow w.heap.size 37 6 (.slice (some ⟨w.heap.size, 0, none⟩) 0 0) 0 [] :=
  own_of_cells (cur := #[]) (Blk.new w 37 #[]) (Nat.le_refl _) (Nat.le_refl _) (Nat.zero_le _) rfl rfl (fun j hj => absurd hj (by omega))
set_option maxHeartbeats 4000000 in
set_option maxRecDepth 100000 in
theorem walk (W : World) (L : LayQ) (q : Qy) (A : Option Addr) (n c : Nat) (ps : List (LayV × Kv)) (rr : RdKs W A n ps) (nc : n ≤ c) (cm : c ≤ maxLen) (rb : n ≤ 140737488351232) (a2 : Int) (hw2 : (Lit.int IntKind.i64 a2).wf = true) :
    Calls Try.prog 4 #[vq L q, .slice A n c, .int .i64 a2] W fun e w' => e = .returned (.bool true) ∧ Below W.heap.size W w' := by
  have HQ := kept (QyB.new W L q)
  have HB := kept (boxQ_below W L q)
  have HH := kept rr
  clear rr
  go_enter Try.func4, Try.ntmps4
  go_upto_region 1 with fail
  refine name_world (fun W1 hW1 => ?_)
  replace hW1 : W1 = boxQ W L q := hW1
  rw [← hW1] at HQ HB
  clear hW1
  have HL := kept (lives_any W1)
  go_wp2_with fail
  with_reducible refine HL.out.mono ?_
  rintro e w1 ⟨rfl, hb⟩
  replace HQ := kept (HQ.out.below_ hb HQ.out.lt)
  replace HB := kept (bel_to hb HB.out)
  clear hb HL
  have HF := kept (few_any A n c ps w1 (HH.out.below HB.out) rb)
  go_wp2_with fail
  with_reducible refine HF.out.mono ?_
  rintro e w2 ⟨t, rfl, hf, hb⟩
  replace HQ := kept (HQ.out.below_ hb HQ.out.lt)
  replace HB := kept (bel_to hb HB.out)
  clear hb HF
  cases t with
  | false =>
    clear hf
    have HL2 := kept (lives_any w2)
    go_wp2_with fail
    with_reducible refine HL2.out.mono ?_
    rintro e w9 ⟨rfl, hb9⟩
    have HB9 := kept (bel_to hb9 HB.out)
    clear hb9
    go_wp2
    go_ret
    exact ⟨rfl, HB9.out⟩
  | true =>
    have HFEW := kept (hf rfl)
    clear hf
    by_cases h0 : n = 0
    · subst h0
      have HL2 := kept (lives_any w2)
      go_wp2_with fail
      with_reducible refine HL2.out.mono ?_
      rintro e w9 ⟨rfl, hb9⟩
      have HB9 := kept (bel_to hb9 HB.out)
      clear hb9
      go_wp2
      go_ret
      exact ⟨rfl, HB9.out⟩
    · have hn6 : n ≤ 60 := HFEW.out.1
      have HU := kept HFEW.out.2
      have h0' : ((n : Int) == 0) = false := by simp; omega
      have hne : (n : Int) ≠ 0 := by omega
      obtain ⟨k, hkn, hk⟩ := at_k a2 n (by omega) hn6
      obtain ⟨q0, q1, q2, q3, q4, q5, q6, q7, q8, q9, q10, q11⟩ := HQ.out.all
      have f0 := Blk.frozen HQ.out
      have HQ3 : Hid (QyB (w2.setCell ⟨W.heap.size, 3, none⟩ (.int .i64 0)) W.heap.size L (bareQ q q.keys q.count)) := HQ.out.set_ 3 (.int .i64 0)
      have HB3 := kept (HB.out.setCell (p := ⟨W.heap.size, 3, none⟩) (Nat.le_refl _) (.int .i64 0))
      clear HFEW
      go_upto_region 5 with fail
      rw [hk]
      have hkc : k ≤ c := by omega
      clear q0 q1 q2 q3 q4 q5 q6 q7 q8 q9 q10 q11 f0 HQ HB hk
      generalize w2.setCell ⟨W.heap.size, 3, none⟩ (.int .i64 0) = w3 at HQ3 HB3 ⊢
      obtain ⟨b, o, rfl⟩ : ∃ b o, A = some ⟨b, o, none⟩ := by
        obtain ⟨b, o, e, -⟩ := HH.out.at_ 0 (by rw [HH.out.ln]; omega)
        exact ⟨b, o, e⟩
      have HQB : Hid (QyB w3.drew W.heap.size L (bareQ q q.keys q.count) ∧ Below W.heap.size W w3.drew) := ⟨HQ3.out, HB3.out.drew⟩
      have hlen := HH.out.ln
      have hd1 : (ps.drop k).length = n - k := by rw [List.length_drop, hlen]
      have hd2 : (ps.take k).length = k := by rw [List.length_take, hlen]; omega
      have hkn' : k ≤ n := by omega
      have hck : c ≠ k := by omega
      have hn9 : n - k + k = n := by omega
      refine wp_region_held_drew (S := (fun _ => True)) (by kernel_rfl) ?_ (fun hHeld => ?_)
      · ((try dsimp only); (all_goals trivial))
      refine hand_take 1 (some 37) ?_ (by kernel_rfl) (by kernel_rfl) (by kernel_rfl) (by kernel_rfl) (by kernel_rfl) (fun _ _ _ h => h) ?_ (by assumption) ?_
      rotate_left
      · (intro o ho w hSw; (simp only [List.getElem?_toArray, List.getElem?_cons_succ, List.getElem?_cons_zero, Option.some.injEq] at ho); subst ho; (try dsimp only at hSw); go_simp; (first | done | with_reducible rfl))
      (try simp only [Act.put, List.setIfInBounds_toArray, List.set_cons_zero, List.set_cons_succ])
      refine hand_take 2 (some 38) ?_ (by kernel_rfl) (by kernel_rfl) (by kernel_rfl) (by kernel_rfl) (by kernel_rfl) (fun _ _ _ h => h) ?_ (by assumption) ?_
      rotate_left
      · (intro o ho w hSw; (simp only [List.getElem?_toArray, List.getElem?_cons_succ, List.getElem?_cons_zero, Option.some.injEq] at ho); subst ho; (try dsimp only at hSw); go_simp; (first | done | with_reducible rfl))
      (try simp only [Act.put, List.setIfInBounds_toArray, List.set_cons_zero, List.set_cons_succ])
      refine hand_take 3 (some 39) ?_ (by kernel_rfl) (by kernel_rfl) (by kernel_rfl) (by kernel_rfl) (by kernel_rfl) (fun _ _ _ h => h) ?_ (by assumption) ?_
      rotate_left
      · (intro o ho w hSw; (simp only [List.getElem?_toArray, List.getElem?_cons_succ, List.getElem?_cons_zero, Option.some.injEq] at ho); subst ho; (try dsimp only at hSw); go_simp; (first | done | with_reducible rfl))
      (try simp only [Act.put, List.setIfInBounds_toArray, List.set_cons_zero, List.set_cons_succ])
      refine hand_take 5 (some 41) ?_ (by kernel_rfl) (by kernel_rfl) (by kernel_rfl) (by kernel_rfl) (by kernel_rfl) (fun _ _ _ h => h) ?_ (by assumption) ?_
      rotate_left
      · (intro o ho w hSw; (simp only [List.getElem?_toArray, List.getElem?_cons_succ, List.getElem?_cons_zero, Option.some.injEq] at ho); subst ho; (try dsimp only at hSw); go_simp; (first | done | with_reducible rfl))
      (try simp only [Act.put, List.setIfInBounds_toArray, List.set_cons_zero, List.set_cons_succ])
      refine hand_take 6 (some 42) ?_ (by kernel_rfl) (by kernel_rfl) (by kernel_rfl) (by kernel_rfl) (by kernel_rfl) (fun _ _ _ h => h) ?_ (by assumption) ?_
      rotate_left
      · (intro o ho w hSw; (simp only [List.getElem?_toArray, List.getElem?_cons_succ, List.getElem?_cons_zero, Option.some.injEq] at ho); subst ho; (try dsimp only at hSw); go_simp; (first | done | with_reducible rfl))
      (try simp only [Act.put, List.setIfInBounds_toArray, List.set_cons_zero, List.set_cons_succ])
      refine hand_take 7 (some 43) ?_ (by kernel_rfl) (by kernel_rfl) (by kernel_rfl) (by kernel_rfl) (by kernel_rfl) (fun _ _ _ h => h) ?_ (by assumption) ?_
      rotate_left
      · (intro o ho w hSw; (simp only [List.getElem?_toArray, List.getElem?_cons_succ, List.getElem?_cons_zero, Option.some.injEq] at ho); subst ho; (try dsimp only at hSw); go_simp; (first | done | with_reducible rfl))
      (try simp only [Act.put, List.setIfInBounds_toArray, List.set_cons_zero, List.set_cons_succ])
      generalize w3.drew = w4 at HQB hHeld ⊢
      refine hand_ready 0 (by kernel_rfl) (by kernel_rfl) (fun o ho K hK => ?_)
      (simp only [List.getElem?_toArray, List.getElem?_cons_succ, List.getElem?_cons_zero, Option.some.injEq] at ho)
      subst ho
      go_simp
      (have HO4 := kept (rot_new w4); have HQ4 : Hid (QyB (w4.alloc (.cells #[] 37)) W.heap.size L (bareQ q q.keys q.count) ∧ Below W.heap.size W (w4.alloc (.cells #[] 37))) := ⟨HQB.out.1.below_ ((Below.refl w4.heap.size w4).alloc (Nat.le_refl _) _) HQB.out.1.lt, HQB.out.2.alloc HQB.out.2.size _⟩; have HZ4 : Hid (W.heap.size + 1 ≤ w4.heap.size) := HQB.out.1.lt; have HY4 : Hid (w4.heap.size ≤ (w4.alloc (.cells #[] 37)).heap.size) := (by show _ ≤ _; rw [World.size_alloc]; exact Nat.le_succ _))
      refine hK.out _ _ ?_ (fun hHeld => ?_)
      · ((try dsimp only); (all_goals trivial))
      clear hK K
      (try simp only [Act.put, List.setIfInBounds_toArray, List.set_cons_zero, List.set_cons_succ])
      refine hand_ready 4 (by kernel_rfl) (by kernel_rfl) (fun o ho K hK => ?_)
      (simp only [List.getElem?_toArray, List.getElem?_cons_succ, List.getElem?_cons_zero, Option.some.injEq] at ho)
      subst ho
      (refine wp_append_g (.tmp 36) (.tmp 39) 25 rfl 37 ⟨b, o + k * 6, none⟩ rfl rfl Try.underlying25 kvinfo rfl (by decide) (by decide) HO4.out (ys := flatP (ps.drop k)) (by rw [flatP_len, hd1]) (fun j u hj => by rw [gadd_at, Nat.add_assoc]; rw [flat_drop (by rw [hlen]; exact hkn')] at hj; exact rd_cell (HH.out.below HQ4.out.2) _ u hj) (flatP_one _) (by omega) HY4.out (Nat.zero_le _) ?_; intro A5 c5 w5 h5 g5 loc5; rw [Nat.zero_add] at h5 ⊢; (have hr5 := rot_step HQ4.out.2 HQ4.out.1 HO4.out HZ4.out g5); have HO5 := kept h5; have HR5 := kept hr5; have HY5 : Hid (w4.heap.size ≤ w5.heap.size) := Nat.le_trans HY4.out g5.size; clear h5 g5 loc5 hr5)
      refine hK.out _ _ ?_ (fun hHeld => ?_)
      · ((try dsimp only); (all_goals trivial))
      clear hK K
      (try simp only [Act.put, List.setIfInBounds_toArray, List.set_cons_zero, List.set_cons_succ])
      refine hand_ready 8 (by kernel_rfl) (by kernel_rfl) (fun o ho K hK => ?_)
      (simp only [List.getElem?_toArray, List.getElem?_cons_succ, List.getElem?_cons_zero, Option.some.injEq] at ho)
      subst ho
      (refine wp_append_g (.tmp 40) (.tmp 43) 25 rfl 37 ⟨b, o, none⟩ rfl rfl Try.underlying25 kvinfo rfl (by decide) (by decide) HO5.out (ys := flatP (ps.take k)) (by rw [flatP_len, hd2]) (fun j u hj => by rw [gadd_at]; exact rd_cell ((HH.out.below HR5.out.1).take k hkn') _ u hj) (flatP_one _) (by omega) HY5.out (Nat.zero_le _) ?_; intro A8 c8 w8 h8 g8 loc8; rw [hn9] at h8 ⊢; (have hr8 := rot_step HR5.out.1 HR5.out.2 HO5.out HZ4.out g8); have HO8 := kept h8; have HR8 := kept hr8; clear h8 g8 loc8 hr8)
      refine hK.out _ _ ?_ (fun hHeld => ?_)
      · ((try dsimp only); (all_goals trivial))
      clear hK K
      (try simp only [Act.put, List.setIfInBounds_toArray, List.set_cons_zero, List.set_cons_succ])
      refine hand_take 9 (some 8) ?_ (by kernel_rfl) (by kernel_rfl) (by kernel_rfl) (by kernel_rfl) (by kernel_rfl) (fun _ _ _ h => h) ?_ (by assumption) ?_
      rotate_left
      · (intro o ho w hSw; (simp only [List.getElem?_toArray, List.getElem?_cons_succ, List.getElem?_cons_zero, Option.some.injEq] at ho); subst ho; (try dsimp only at hSw); go_simp; (first | done | with_reducible rfl))
      (try simp only [Act.put, List.setIfInBounds_toArray, List.set_cons_zero, List.set_cons_succ])
      refine wpAnyH_done (by kernel_rfl) ?_ _
      have HRD : Hid (RdKs w8 A8 n (ps.drop k ++ ps.take k)) := by
        have h := HO8.out
        refine RdKs.of_own (base := w4.heap.size) (c := c8) (by rw [List.flatMap_append]; simpa [flatP] using h) (fun p hp => (HH.out.rd p ?_).below HR8.out.1)
        rcases List.mem_append.1 hp with h | h
        · exact List.mem_of_mem_drop h
        · exact List.mem_of_mem_take h
      have HPM : Hid ((ps.map Prod.snd).Perm ((ps.drop k ++ ps.take k).map Prod.snd)) := by
        refine List.Perm.map _ ?_
        refine List.Perm.trans ?_ List.perm_append_comm
        rw [List.take_append_drop]
      have hb7 := boxQ_below w8 L (bareQ q q.keys q.count)
      have HD7 : Hid (TrD W w8 (boxQ w8 L (bareQ q q.keys q.count)) L (bareQ q q.keys q.count) (bareQ q q.keys q.count)) := kept ⟨bel_to hb7 HR8.out.1, hb7, HR8.out.2.below_ hb7 HR8.out.2.lt, QyB.new w8 L _, HR8.out.2.lt⟩
      obtain ⟨q0, q1, q2, q3, q4, q5, q6, q7, q8, q9, q10, q11⟩ := HR8.out.2.all
      clear HO5 HR5 HY5 HO8 HO4 HQ4 HZ4 HY4 HQB HQ3 HB3 hd1 hd2 hb7
      go_upto_region 7 with fail
      refine name_world (fun W7 hW7 => ?_)
      replace hW7 : W7 = boxQ w8 L (bareQ q q.keys q.count) := hW7
      rw [← hW7] at HD7
      clear hW7 q0 q1 q2 q3 q4 q5 q6 q7 q8 q9 q10 q11
      have q5 := HD7.out.qa.all.2.2.2.2.2.1
      have q5' := HD7.out.qb_.all.2.2.2.2.2.1
      have f0 := Blk.frozen HD7.out.qb_
      have HDW : Hid (TrD W w8 (W7.setCell ⟨w8.heap.size, 5, none⟩ (.bool (!(bareQ q q.keys q.count).desc))) L (bareQ q q.keys q.count) (downQ (bareQ q q.keys q.count))) := kept (HD7.out.turn)
      clear HD7
      go_upto_region 8 with fail
      clear q5 q5' f0
      generalize W7.setCell ⟨w8.heap.size, 5, none⟩ (.bool (!(bareQ q q.keys q.count).desc)) = W8 at HDW ⊢
      have hl0 : (bareQ q q.keys q.count).limit = 0 := rfl
      generalize bareQ q q.keys q.count = qa at HDW HR8 hl0
      obtain ⟨R, hR⟩ : ∃ R, siftQ qa (ps.map Prod.snd) = R := ⟨_, rfl⟩
      obtain ⟨R3, hR3⟩ : ∃ R3, siftQ (downQ qa) (ps.map Prod.snd) = R3 := ⟨_, rfl⟩
      have HRR : Hid (R3.1 = R.1.reverse) := by show _ = _; rw [← hR, ← hR3]; exact down_sift hl0 HU.out
      have hR2 : siftQ qa ((ps.drop k ++ ps.take k).map Prod.snd) = R := by rw [← siftQ_swap HU.out HPM.out]; exact hR
      have HC1 : ∀ V, TrD W w8 V L qa (downQ qa) → Hid _ := fun V hV => kept (sift_any L qa (some ⟨b, o, none⟩) n c ps V (HH.out.below hV.bel) (by omega) HU.out)
      have HC2 : ∀ V, TrD W w8 V L qa (downQ qa) → Hid _ := fun V hV => kept (sift_any L qa A8 n c8 (ps.drop k ++ ps.take k) V (HRD.out.below hV.blw) (by omega) (HU.out.perm HPM.out))
      have HC3 : ∀ V, TrD W w8 V L qa (downQ qa) → Hid _ := fun V hV => kept (sift_any L (downQ qa) (some ⟨b, o, none⟩) n c ps V (HH.out.below hV.bel) (by omega) HU.out)
      rw [hR] at HC1
      rw [hR2] at HC2
      rw [hR3] at HC3
      rw [HRR.out] at HC3
      have HLE : Hid (R.1.length ≤ n) := by
        show _ ≤ _
        rw [← hR]
        have h := sift_few qa (ps.map Prod.snd)
        rw [List.length_map, hlen] at h
        exact h
      clear hR hR2 hR3 HRR hl0 HR8
      obtain ⟨l, i, m⟩ := R
      obtain ⟨l3, i3, m3⟩ := R3
      dsimp only at HC1 HC2 HC3 HLE
      clear HRD HPM
      have HD : Hid (TrD W w8 W8.drew L qa (downQ qa)) := kept ⟨HDW.out.bel.drew, HDW.out.blw.drew, HDW.out.qa, HDW.out.qb_, HDW.out.le⟩
      clear HDW
      have HS := kept HD.out.reg
      refine wp_region_held_drew (S := (fun W' => (W'.cell? ⟨W.heap.size, 0, none⟩ = some (.slice L.ka L.kn L.kc) ∧ W'.cell? ⟨W.heap.size, 1, none⟩ = some (.slice L.ea L.en L.ec) ∧ W'.cell? ⟨W.heap.size, 2, none⟩ = some (.int .i64 L.at_) ∧ W'.cell? ⟨W.heap.size, 3, none⟩ = some (.int .i64 qa.limit) ∧ W'.cell? ⟨W.heap.size, 4, none⟩ = some (.int .i64 qa.sort) ∧ W'.cell? ⟨W.heap.size, 5, none⟩ = some (.bool qa.desc) ∧ W'.cell? ⟨W.heap.size, 6, none⟩ = some (.bool qa.keys) ∧ W'.cell? ⟨W.heap.size, 7, none⟩ = some (.bool qa.count) ∧ W'.cell? ⟨W.heap.size, 8, none⟩ = some (.int .i64 qa.m0) ∧ W'.cell? ⟨W.heap.size, 9, none⟩ = some (.int .i64 qa.m1) ∧ W'.cell? ⟨W.heap.size, 10, none⟩ = some (.int .i64 qa.c0) ∧ W'.cell? ⟨W.heap.size, 11, none⟩ = some (.int .i64 qa.c1)) ∧ (W'.cell? ⟨w8.heap.size, 0, none⟩ = some (.slice L.ka L.kn L.kc) ∧ W'.cell? ⟨w8.heap.size, 1, none⟩ = some (.slice L.ea L.en L.ec) ∧ W'.cell? ⟨w8.heap.size, 2, none⟩ = some (.int .i64 L.at_) ∧ W'.cell? ⟨w8.heap.size, 3, none⟩ = some (.int .i64 (downQ qa).limit) ∧ W'.cell? ⟨w8.heap.size, 4, none⟩ = some (.int .i64 (downQ qa).sort) ∧ W'.cell? ⟨w8.heap.size, 5, none⟩ = some (.bool (downQ qa).desc) ∧ W'.cell? ⟨w8.heap.size, 6, none⟩ = some (.bool (downQ qa).keys) ∧ W'.cell? ⟨w8.heap.size, 7, none⟩ = some (.bool (downQ qa).count) ∧ W'.cell? ⟨w8.heap.size, 8, none⟩ = some (.int .i64 (downQ qa).m0) ∧ W'.cell? ⟨w8.heap.size, 9, none⟩ = some (.int .i64 (downQ qa).m1) ∧ W'.cell? ⟨w8.heap.size, 10, none⟩ = some (.int .i64 (downQ qa).c0) ∧ W'.cell? ⟨w8.heap.size, 11, none⟩ = some (.int .i64 (downQ qa).c1)))) (by kernel_rfl) ?_ (fun hHeld => ?_)
      · ((try dsimp only); (with_reducible exact HS.out))
      generalize W8.drew = V5 at HD HS hHeld ⊢
      refine hand_take 0 (some 50) ?_ (by kernel_rfl) (by kernel_rfl) (by kernel_rfl) (by kernel_rfl) (by kernel_rfl) (fun _ _ _ h => h) ?_ (by assumption) ?_
      rotate_left
      · (intro o ho w hSw; (simp only [List.getElem?_toArray, List.getElem?_cons_succ, List.getElem?_cons_zero, Option.some.injEq] at ho); subst ho; (try dsimp only at hSw); go_simp; (first | done | with_reducible rfl))
      (try simp only [Act.put, List.setIfInBounds_toArray, List.set_cons_zero, List.set_cons_succ])
      refine hand_take 1 (some 51) ?_ (by kernel_rfl) (by kernel_rfl) (by kernel_rfl) (by kernel_rfl) (by kernel_rfl) (fun _ _ _ h => h) ?_ (by assumption) ?_
      rotate_left
      · (intro o ho w hSw; (simp only [List.getElem?_toArray, List.getElem?_cons_succ, List.getElem?_cons_zero, Option.some.injEq] at ho); subst ho; (try dsimp only at hSw); go_simp; (first | done | with_reducible rfl))
      (try simp only [Act.put, List.setIfInBounds_toArray, List.set_cons_zero, List.set_cons_succ])
      refine hand_take 3 (some 53) ?_ (by kernel_rfl) (by kernel_rfl) (by kernel_rfl) (by kernel_rfl) (by kernel_rfl) (fun _ _ _ h => h) ?_ (by assumption) ?_
      rotate_left
      · (intro o ho w hSw; (simp only [List.getElem?_toArray, List.getElem?_cons_succ, List.getElem?_cons_zero, Option.some.injEq] at ho); subst ho; (try dsimp only at hSw); go_simp; (first | done | with_reducible rfl))
      (try simp only [Act.put, List.setIfInBounds_toArray, List.set_cons_zero, List.set_cons_succ])
      refine hand_take 4 (some 54) ?_ (by kernel_rfl) (by kernel_rfl) (by kernel_rfl) (by kernel_rfl) (by kernel_rfl) (fun _ _ _ h => h) ?_ (by assumption) ?_
      rotate_left
      · (intro o ho w hSw; (simp only [List.getElem?_toArray, List.getElem?_cons_succ, List.getElem?_cons_zero, Option.some.injEq] at ho); subst ho; (try dsimp only at hSw); go_simp; (first | done | with_reducible rfl))
      (try simp only [Act.put, List.setIfInBounds_toArray, List.set_cons_zero, List.set_cons_succ])
      refine hand_take 6 (some 56) ?_ (by kernel_rfl) (by kernel_rfl) (by kernel_rfl) (by kernel_rfl) (by kernel_rfl) (fun _ _ _ h => h) ?_ (by assumption) ?_
      rotate_left
      · (intro o ho w hSw; (simp only [List.getElem?_toArray, List.getElem?_cons_succ, List.getElem?_cons_zero, Option.some.injEq] at ho); subst ho; (try dsimp only at hSw); go_simp; (first | done | with_reducible rfl))
      (try simp only [Act.put, List.setIfInBounds_toArray, List.set_cons_zero, List.set_cons_succ])
      refine hand_take 7 (some 57) ?_ (by kernel_rfl) (by kernel_rfl) (by kernel_rfl) (by kernel_rfl) (by kernel_rfl) (fun _ _ _ h => h) ?_ (by assumption) ?_
      rotate_left
      · (intro o ho w hSw; (simp only [List.getElem?_toArray, List.getElem?_cons_succ, List.getElem?_cons_zero, Option.some.injEq] at ho); subst ho; (try dsimp only at hSw); go_simp; (first | done | with_reducible rfl))
      (try simp only [Act.put, List.setIfInBounds_toArray, List.set_cons_zero, List.set_cons_succ])
      refine listed_is (l' := lst15 0 false false false) (by kernel_rfl) ?_
      refine sweepP (fun n b0 b1 b2 s10 s11 s12 s52 s55 s58 w => JJ W w8 L qa (downQ qa) i m i3 m3 l l.reverse n b0 b1 b2 s10 s11 s12 s52 s55 s58 w) ?_ ?_ ?_ ?_ ?_ ?_ ?_ (by kernel_rfl) (by kernel_rfl) (by (simp only [put6, Act.put, List.setIfInBounds_toArray, List.set_cons_zero, List.set_cons_succ])) HS.out (JJ.new HD.out)
      · intro o ho b0 b1 b2 s10 s11 s12 s52 s55 s58 w9 HJ hSw K hK
        (simp only [List.getElem?_toArray, List.getElem?_cons_succ, List.getElem?_cons_zero, Option.some.injEq] at ho)
        subst ho
        (simp only [put6, Act.put, List.setIfInBounds_toArray, List.set_cons_zero, List.set_cons_succ])
        go_simp
        (go_at_call 10; (with_reducible refine (HC1 _ HJ.out.d).out.mono ?_); rintro e w7 ⟨A1, k1, c1, ps1, rfl, m1, rd1, kc1, hb, -⟩)
        (try go_wp2_with fail)
        refine hK.out _ _ (HJ.out.d.below hb).reg ⟨.agg #[.slice A1 k1 c1, .int .i64 i, .bool m], ?_, (HJ.out.below hb).c1 ⟨A1, k1, c1, ps1, rfl, rd1, m1, kc1⟩⟩
        (simp only [put6, Act.put, List.setIfInBounds_toArray, List.set_cons_zero, List.set_cons_succ])
      · intro o ho b0 b1 b2 s10 s11 s12 s52 s55 s58 w9 HJ hSw K hK
        (simp only [List.getElem?_toArray, List.getElem?_cons_succ, List.getElem?_cons_zero, Option.some.injEq] at ho)
        subst ho
        (simp only [put6, Act.put, List.setIfInBounds_toArray, List.set_cons_zero, List.set_cons_succ])
        go_simp
        (go_at_call 10; (with_reducible refine (HC2 _ HJ.out.d).out.mono ?_); rintro e w7 ⟨A1, k1, c1, ps1, rfl, m1, rd1, kc1, hb, -⟩)
        (try go_wp2_with fail)
        refine hK.out _ _ (HJ.out.d.below hb).reg ⟨.agg #[.slice A1 k1 c1, .int .i64 i, .bool m], ?_, (HJ.out.below hb).c2 ⟨A1, k1, c1, ps1, rfl, rd1, m1, kc1⟩⟩
        (simp only [put6, Act.put, List.setIfInBounds_toArray, List.set_cons_zero, List.set_cons_succ])
      · intro o ho b0 b1 b2 s10 s11 s12 s52 s55 s58 w9 HJ hSw K hK
        (simp only [List.getElem?_toArray, List.getElem?_cons_succ, List.getElem?_cons_zero, Option.some.injEq] at ho)
        subst ho
        (simp only [put6, Act.put, List.setIfInBounds_toArray, List.set_cons_zero, List.set_cons_succ])
        go_simp
        (go_at_call 10; (with_reducible refine (HC3 _ HJ.out.d).out.mono ?_); rintro e w7 ⟨A1, k1, c1, ps1, rfl, m1, rd1, kc1, hb, -⟩)
        (try go_wp2_with fail)
        refine hK.out _ _ (HJ.out.d.below hb).reg ⟨.agg #[.slice A1 k1 c1, .int .i64 i3, .bool m3], ?_, (HJ.out.below hb).c3 ⟨A1, k1, c1, ps1, rfl, rd1, m1, kc1⟩⟩
        (simp only [put6, Act.put, List.setIfInBounds_toArray, List.set_cons_zero, List.set_cons_succ])
      · intro o ho n9 b1 b2 s10 s11 s12 s52 s55 s58 w9 HJ hSw K hK
        (simp only [List.getElem?_toArray, List.getElem?_cons_succ, List.getElem?_cons_zero, Option.some.injEq] at ho)
        subst ho
        (simp only [put6, Act.put, List.setIfInBounds_toArray, List.set_cons_zero, List.set_cons_succ])
        go_simp
        refine name_world (fun X hX => ?_)
        refine hK.out _ _ (HJ.out.w0 hX).d.reg ⟨.pointer (some ⟨w9.heap.size, 0, none⟩), ?_, HJ.out.w0 hX⟩
        (simp only [put6, Act.put, List.setIfInBounds_toArray, List.set_cons_zero, List.set_cons_succ])
      · intro o ho n9 b0 b2 s10 s11 s12 s52 s55 s58 w9 HJ hSw K hK
        (simp only [List.getElem?_toArray, List.getElem?_cons_succ, List.getElem?_cons_zero, Option.some.injEq] at ho)
        subst ho
        (simp only [put6, Act.put, List.setIfInBounds_toArray, List.set_cons_zero, List.set_cons_succ])
        go_simp
        refine name_world (fun X hX => ?_)
        refine hK.out _ _ (HJ.out.w1 hX).d.reg ⟨.pointer (some ⟨w9.heap.size, 0, none⟩), ?_, HJ.out.w1 hX⟩
        (simp only [put6, Act.put, List.setIfInBounds_toArray, List.set_cons_zero, List.set_cons_succ])
      · intro o ho n9 b0 b1 s10 s11 s12 s52 s55 s58 w9 HJ hSw K hK
        (simp only [List.getElem?_toArray, List.getElem?_cons_succ, List.getElem?_cons_zero, Option.some.injEq] at ho)
        subst ho
        (simp only [put6, Act.put, List.setIfInBounds_toArray, List.set_cons_zero, List.set_cons_succ])
        go_simp
        refine name_world (fun X hX => ?_)
        refine hK.out _ _ (HJ.out.w2 hX).d.reg ⟨.pointer (some ⟨w9.heap.size, 0, none⟩), ?_, HJ.out.w2 hX⟩
        (simp only [put6, Act.put, List.setIfInBounds_toArray, List.set_cons_zero, List.set_cons_succ])
      · intro s10 s11 s12 s52 s55 s58 w9 HJ hSw
        obtain ⟨g10, rfl, z10, l10⟩ := HJ.out.z0 rfl
        obtain ⟨g11, rfl, z11, l11⟩ := HJ.out.z1 rfl
        obtain ⟨g12, rfl, z12, l12⟩ := HJ.out.z2 rfl
        obtain ⟨A1, k1, c1, ps1, rfl, r1, e1, le1⟩ := HJ.out.r1 (by omega)
        obtain ⟨A2, k2, c2, ps2, rfl, r2, e2, le2⟩ := HJ.out.r2 (by omega)
        obtain ⟨A3, k3, c3, ps3, rfl, r3, e3, le3⟩ := HJ.out.r3 (by omega)
        have N01 : Hid (g10 ≠ g11) := kept (fun e => HJ.out.n01 rfl rfl (by rw [e]))
        have N02 : Hid (g10 ≠ g12) := kept (fun e => HJ.out.n02 rfl rfl (by rw [e]))
        have N12 : Hid (g11 ≠ g12) := kept (fun e => HJ.out.n12 rfl rfl (by rw [e]))
        have HD := kept HJ.out.d
        have Z10 := kept z10
        have Z11 := kept z11
        have Z12 := kept z12
        have H1 := kept r1
        have H2 := kept r2
        have H3 := kept r3
        have HG := kept (And.intro l10 (And.intro l11 l12))
        have HG10 := kept l10
        have HG11 := kept l11
        have HG12 := kept l12
        have HE := kept (And.intro e1 (And.intro e2 e3))
        have HS := kept HD.out.reg
        clear HJ z10 z11 z12 l10 l11 l12 r1 r2 r3 e1 e2 e3 HC1 HC2 HC3 hSw
        (simp only [put6, Act.put, List.setIfInBounds_toArray, List.set_cons_zero, List.set_cons_succ])
        (have z0 := Z10.out.cell 0; have z1 := Z10.out.cell 1; have z2 := Z10.out.cell 2; have f0 := Blk.frozen Z10.out; dsimp only [zR, List.getElem?_cons_zero, List.getElem?_cons_succ] at z0 z1 z2)
        refine hand_ready 12 (by kernel_rfl) (by kernel_rfl) (fun o ho K hK => ?_)
        (simp only [List.getElem?_toArray, List.getElem?_cons_succ, List.getElem?_cons_zero, Option.some.injEq] at ho)
        subst ho
        go_simp
        (refine name_world (fun X hX => ?_); clear z0 z1 z2 f0; replace HD := kept (HD.out.set Z10.out HG10.out hX); replace H1 := kept (zr_rd H1.out Z10.out hX); replace H2 := kept (zr_rd H2.out Z10.out hX); replace H3 := kept (zr_rd H3.out Z10.out hX); replace Z11 := kept (zr_far Z11.out N01.out.symm hX); replace Z12 := kept (zr_far Z12.out N02.out.symm hX); replace Z10 := kept (zr_set Z10.out hX); have HS := kept HD.out.reg; clear hX)
        refine hK.out _ _ ?_ (fun hHeld => ?_)
        · ((try dsimp only); (with_reducible exact HS.out))
        clear hK K
        (try simp only [Act.put, List.setIfInBounds_toArray, List.set_cons_zero, List.set_cons_succ])
        (have z0 := Z11.out.cell 0; have z1 := Z11.out.cell 1; have z2 := Z11.out.cell 2; have f0 := Blk.frozen Z11.out; dsimp only [zR, List.getElem?_cons_zero, List.getElem?_cons_succ] at z0 z1 z2)
        refine hand_ready 13 (by kernel_rfl) (by kernel_rfl) (fun o ho K hK => ?_)
        (simp only [List.getElem?_toArray, List.getElem?_cons_succ, List.getElem?_cons_zero, Option.some.injEq] at ho)
        subst ho
        go_simp
        (refine name_world (fun X hX => ?_); clear z0 z1 z2 f0; replace HD := kept (HD.out.set Z11.out HG11.out hX); replace H1 := kept (zr_rd H1.out Z11.out hX); replace H2 := kept (zr_rd H2.out Z11.out hX); replace H3 := kept (zr_rd H3.out Z11.out hX); replace Z10 := kept (zr_far Z10.out N01.out hX); replace Z12 := kept (zr_far Z12.out N12.out.symm hX); replace Z11 := kept (zr_set Z11.out hX); have HS := kept HD.out.reg; clear hX)
        refine hK.out _ _ ?_ (fun hHeld => ?_)
        · ((try dsimp only); (with_reducible exact HS.out))
        clear hK K
        (try simp only [Act.put, List.setIfInBounds_toArray, List.set_cons_zero, List.set_cons_succ])
        (have z0 := Z12.out.cell 0; have z1 := Z12.out.cell 1; have z2 := Z12.out.cell 2; have f0 := Blk.frozen Z12.out; dsimp only [zR, List.getElem?_cons_zero, List.getElem?_cons_succ] at z0 z1 z2)
        refine hand_ready 14 (by kernel_rfl) (by kernel_rfl) (fun o ho K hK => ?_)
        (simp only [List.getElem?_toArray, List.getElem?_cons_succ, List.getElem?_cons_zero, Option.some.injEq] at ho)
        subst ho
        go_simp
        (refine name_world (fun X hX => ?_); clear z0 z1 z2 f0; replace HD := kept (HD.out.set Z12.out HG12.out hX); replace H1 := kept (zr_rd H1.out Z12.out hX); replace H2 := kept (zr_rd H2.out Z12.out hX); replace H3 := kept (zr_rd H3.out Z12.out hX); replace Z10 := kept (zr_far Z10.out N02.out hX); replace Z11 := kept (zr_far Z11.out N12.out hX); replace Z12 := kept (zr_set Z12.out hX); have HS := kept HD.out.reg; clear hX)
        refine hK.out _ _ ?_ (fun hHeld => ?_)
        · ((try dsimp only); (with_reducible exact HS.out))
        clear hK K
        (try simp only [Act.put, List.setIfInBounds_toArray, List.set_cons_zero, List.set_cons_succ])
        refine wpAnyH_done (by kernel_rfl) ?_ _
        have hk1 : l.length = k1 := by rw [← H1.out.ln, ← HE.out.1, List.length_map]
        have hk2 : l.length = k2 := by rw [← H2.out.ln, ← HE.out.2.1, List.length_map]
        have hk3 : l.length = k3 := by rw [← H3.out.ln, ← List.length_map (f := Prod.snd), HE.out.2.2, List.length_reverse]
        obtain ⟨t9, ht9⟩ : ∃ t9, l.length = t9 := ⟨_, rfl⟩
        rw [ht9] at hk1 hk2 hk3 HLE
        subst hk1 hk2 hk3
        have x0 := Z10.out.cell 0
        have x1 := Z10.out.cell 1
        have x2 := Z10.out.cell 2
        have y0 := Z11.out.cell 0
        have y1 := Z11.out.cell 1
        have y2 := Z11.out.cell 2
        dsimp only [List.getElem?_cons_zero, List.getElem?_cons_succ] at x0 x1 x2 y0 y1 y2
        have HSM := fun V h1 h2 => kept (sameRes_true A1 A2 t9 c1 c2 i m ps1 ps2 V h1 h2 (HE.out.1.trans HE.out.2.1.symm) (by have := HLE.out; omega))
        replace HSM := HSM _ H1.out H2.out
        clear HS
        go_wp2_with fail
        with_reducible refine HSM.out.mono ?_
        rintro e w10 ⟨rfl, hb10⟩
        clear x0 x1 x2 y0 y1 y2 HSM
        have HX : Hid (Below W.heap.size W w10 ∧ Blk w10 g10 30 [.slice A1 t9 c1, .int .i64 i, .bool m] ∧ Blk w10 g12 30 [.slice A3 t9 c3, .int .i64 i3, .bool m3] ∧ RdKs w10 A1 t9 ps1 ∧ RdKs w10 A3 t9 ps3) := kept ⟨bel_to hb10 HD.out.bel, Blk.below Z10.out hb10 Z10.out.lt, Blk.below Z12.out hb10 Z12.out.lt, H1.out.below hb10, H3.out.below hb10⟩
        have HEL : Hid (∀ t (h1 : t < ps1.length) (h3 : t9 - 1 - t < ps3.length), ps1[t].2 = (ps3[t9 - 1 - t]).2) := by
          intro t h1 h3
          have a1 : (ps1.map Prod.snd)[t]'(by simpa using h1) = l[t]'(by have := H1.out.ln; omega) := by simp only [HE.out.1]
          have a3 : (ps3.map Prod.snd)[t9 - 1 - t]'(by simpa using h3) = l.reverse[t9 - 1 - t]'(by rw [List.length_reverse]; have := H3.out.ln; omega) := by simp only [HE.out.2.2]
          rw [List.getElem_map] at a1 a3
          rw [a1, a3, List.getElem_reverse]
          congr 1
          have := H1.out.ln
          omega
        clear hb10 HD Z10 Z11 Z12 H1 H2 H3 HE HG HG10 HG11 HG12 N01 N02 N12 ht9
        have x0 : w10.cell? ⟨g10, 0, none⟩ = some (.slice A1 t9 c1) := HX.out.2.1.cell 0
        have z0 : w10.cell? ⟨g12, 0, none⟩ = some (.slice A3 t9 c3) := HX.out.2.2.1.cell 0
        have e1 : ((t9 : Int) != (t9 : Int)) = false := by simp
        have H00 : Hid (Below w10.heap.size w10 w10) := Below.refl _ _
        go_wp2
        go_loopg [75] t9 (fun kx s75 wr => ∃ t : Nat, s75 = .int .i64 t ∧ t ≤ t9 ∧ t9 - t ≤ kx ∧ Hid (Below w10.heap.size w10 wr))
        case atStart => exact ⟨0, rfl, Nat.zero_le _, Nat.le_refl _, H00⟩
        case round =>
          clear H00 x0 z0
          obtain ⟨t, rfl, htk, hkx, HB⟩ := hrel
          by_cases hlt : t < t9
          · have hltz : (t : Int) < (t9 : Int) := by omega
            have hl1 : t < ps1.length := by rw [HX.out.2.2.2.1.ln]; exact hlt
            have hl3 : t9 - 1 - t < ps3.length := by rw [HX.out.2.2.2.2.ln]; omega
            have heq := HEL.out t hl1 hl3
            have ra := (HX.out.2.2.2.1.below HB.out).rd ps1[t] (List.getElem_mem hl1)
            have rb := (HX.out.2.2.2.2.below HB.out).rd ps3[t9 - 1 - t] (List.getElem_mem hl3)
            obtain ⟨b1, o1, hA1, a0, a1, a2, a3, a4, a5⟩ := (HX.out.2.2.2.1.below HB.out).at_ t hl1
            obtain ⟨b3, o3, hA3, d0, d1, d2, d3, d4, d5⟩ := (HX.out.2.2.2.2.below HB.out).at_ (t9 - 1 - t) hl3
            have z0 : wr.cell? ⟨g12, 0, none⟩ = some (.slice A3 t9 c3) := (Blk.below HX.out.2.2.1 HB.out HX.out.2.2.1.lt).cell 0
            have hn60 : t9 ≤ 60 := Nat.le_trans HLE.out hn6
            obtain ⟨u, hu⟩ : ∃ u, t9 - 1 - t = u := ⟨_, rfl⟩
            have hs1 : wrap64 ((t9 : Int) - 1) = (t9 : Int) - 1 := IntWalk.wrap64_in _ ⟨by omega, by omega⟩
            have hs2 : wrap64 ((t9 : Int) - 1 - (t : Int)) = (u : Int) := by rw [IntWalk.wrap64_in _ ⟨by omega, by omega⟩]; omega
            have hs3 : IntKind.i64.wrap ((t9 : Int) - 1) = (t9 : Int) - 1 := by rw [IntKind.wrap_i64]; omega
            have hs4 : IntKind.i64.wrap ((t9 : Int) - 1 - (t : Int)) = (u : Int) := by rw [IntKind.wrap_i64]; omega
            have hut : u < t9 := by omega
            have hu0 : (0 : Int) ≤ (u : Int) := by omega
            have huz : (u : Int) < (t9 : Int) := by omega
            simp only [hu] at heq rb d0 d1 d2 d3 d4 d5
            generalize ps1[t] = p at a0 a1 a2 a3 a4 a5 ra heq
            generalize ps3[u] = r at d0 d1 d2 d3 d4 d5 rb heq
            obtain ⟨⟨ka, kn, kc, va, vn, vc⟩, ⟨xk, xv, xc, xm, xe, xl⟩⟩ := p
            obtain ⟨⟨la, ln, lc, ua, un, uc⟩, ⟨yk, yv, yc, ym, ye, yl⟩⟩ := r
            dsimp only at a0 a1 a2 a3 a4 a5 ra d0 d1 d2 d3 d4 d5 rb heq
            rw [hA3] at z0
            have hbx := boxV_below wr ⟨ka, kn, kc, va, vn, vc⟩ ⟨xk, xv, xc, xm, xe, xl⟩
            have HX1 : Hid (Six (boxV wr ⟨ka, kn, kc, va, vn, vc⟩ ⟨xk, xv, xc, xm, xe, xl⟩) wr.heap.size ⟨ka, kn, kc, va, vn, vc⟩ ⟨xk, xv, xc, xm, xe, xl⟩) := Six.new wr ⟨ka, kn, kc, va, vn, vc⟩ ⟨xk, xv, xc, xm, xe, xl⟩
            have HCS := fun W' h g => kept (refSame_kv ⟨ka, kn, kc, va, vn, vc⟩ ⟨la, ln, lc, ua, un, uc⟩ ⟨xk, xv, xc, xm, xe, xl⟩ ⟨yk, yv, yc, ym, ye, yl⟩ W' true (decide_eq_true heq) h g)
            have HB1 := kept (bel_to hbx HB.out)
            have HRA := kept (ra.below hbx)
            have HRB := kept (rb.below hbx)
            have kb := Keeps.of_below hbx
            have HO : Hid ((boxV wr ⟨ka, kn, kc, va, vn, vc⟩ ⟨xk, xv, xc, xm, xe, xl⟩).cell? ⟨g12, 0, none⟩ = some (.slice (some ⟨b3, o3, none⟩) t9 c3) ∧ ((boxV wr ⟨ka, kn, kc, va, vn, vc⟩ ⟨xk, xv, xc, xm, xe, xl⟩).cell? ⟨b3, o3 + u * 6, none⟩ = some (.slice la ln lc) ∧ (boxV wr ⟨ka, kn, kc, va, vn, vc⟩ ⟨xk, xv, xc, xm, xe, xl⟩).cell? ⟨b3, o3 + u * 6 + 1, none⟩ = some (.slice ua un uc) ∧ (boxV wr ⟨ka, kn, kc, va, vn, vc⟩ ⟨xk, xv, xc, xm, xe, xl⟩).cell? ⟨b3, o3 + u * 6 + 2, none⟩ = some (.int .i64 yc) ∧ (boxV wr ⟨ka, kn, kc, va, vn, vc⟩ ⟨xk, xv, xc, xm, xe, xl⟩).cell? ⟨b3, o3 + u * 6 + 3, none⟩ = some (.int .i64 ym) ∧ (boxV wr ⟨ka, kn, kc, va, vn, vc⟩ ⟨xk, xv, xc, xm, xe, xl⟩).cell? ⟨b3, o3 + u * 6 + 4, none⟩ = some (.int .i64 ye) ∧ (boxV wr ⟨ka, kn, kc, va, vn, vc⟩ ⟨xk, xv, xc, xm, xe, xl⟩).cell? ⟨b3, o3 + u * 6 + 5, none⟩ = some (.int .i64 yl))) := kept ⟨kb.cell_ z0, kb.cell_ d0, kb.cell_ d1, kb.cell_ d2, kb.cell_ d3, kb.cell_ d4, kb.cell_ d5⟩
            subst hA1 hA3
            clear ra rb heq hbx kb d0 d1 d2 d3 d4 d5 z0 hu hl1 hl3
            go_upto_region 14 with fail
            refine name_world (fun W1 hW1 => ?_)
            replace hW1 : W1 = boxV wr ⟨ka, kn, kc, va, vn, vc⟩ ⟨xk, xv, xc, xm, xe, xl⟩ := hW1
            rw [← hW1] at HX1 HB1 HRA HRB HO
            clear hW1 a0 a1 a2 a3 a4 a5
            replace HRA := kept (HRA.out.drew)
            replace HRB := kept (HRB.out.drew)
            have HS : Hid ((W1.drew.cell? ⟨wr.heap.size, 0, none⟩ = some (.slice ka kn kc) ∧ W1.drew.cell? ⟨wr.heap.size, 1, none⟩ = some (.slice va vn vc) ∧ W1.drew.cell? ⟨wr.heap.size, 2, none⟩ = some (.int .i64 xc) ∧ W1.drew.cell? ⟨wr.heap.size, 3, none⟩ = some (.int .i64 xm) ∧ W1.drew.cell? ⟨wr.heap.size, 4, none⟩ = some (.int .i64 xe) ∧ W1.drew.cell? ⟨wr.heap.size, 5, none⟩ = some (.int .i64 xl)) ∧ W1.drew.cell? ⟨g12, 0, none⟩ = some (.slice (some ⟨b3, o3, none⟩) t9 c3) ∧ (W1.drew.cell? ⟨b3, o3 + u * 6, none⟩ = some (.slice la ln lc) ∧ W1.drew.cell? ⟨b3, o3 + u * 6 + 1, none⟩ = some (.slice ua un uc) ∧ W1.drew.cell? ⟨b3, o3 + u * 6 + 2, none⟩ = some (.int .i64 yc) ∧ W1.drew.cell? ⟨b3, o3 + u * 6 + 3, none⟩ = some (.int .i64 ym) ∧ W1.drew.cell? ⟨b3, o3 + u * 6 + 4, none⟩ = some (.int .i64 ye) ∧ W1.drew.cell? ⟨b3, o3 + u * 6 + 5, none⟩ = some (.int .i64 yl))) := kept ⟨HX1.out.cells, HO.out⟩
            replace HCS := HCS W1.drew HRA.out HRB.out
            refine wp_region_held_drew (S := (fun W' => (W'.cell? ⟨wr.heap.size, 0, none⟩ = some (.slice ka kn kc) ∧ W'.cell? ⟨wr.heap.size, 1, none⟩ = some (.slice va vn vc) ∧ W'.cell? ⟨wr.heap.size, 2, none⟩ = some (.int .i64 xc) ∧ W'.cell? ⟨wr.heap.size, 3, none⟩ = some (.int .i64 xm) ∧ W'.cell? ⟨wr.heap.size, 4, none⟩ = some (.int .i64 xe) ∧ W'.cell? ⟨wr.heap.size, 5, none⟩ = some (.int .i64 xl)) ∧ W'.cell? ⟨g12, 0, none⟩ = some (.slice (some ⟨b3, o3, none⟩) t9 c3) ∧ (W'.cell? ⟨b3, o3 + u * 6, none⟩ = some (.slice la ln lc) ∧ W'.cell? ⟨b3, o3 + u * 6 + 1, none⟩ = some (.slice ua un uc) ∧ W'.cell? ⟨b3, o3 + u * 6 + 2, none⟩ = some (.int .i64 yc) ∧ W'.cell? ⟨b3, o3 + u * 6 + 3, none⟩ = some (.int .i64 ym) ∧ W'.cell? ⟨b3, o3 + u * 6 + 4, none⟩ = some (.int .i64 ye) ∧ W'.cell? ⟨b3, o3 + u * 6 + 5, none⟩ = some (.int .i64 yl)))) (by kernel_rfl) ?_ (fun hHeld => ?_)
            · ((try dsimp only); (first | with_reducible exact HS.out | with_reducible exact HS2.out))
            refine hand_take 0 (some 80) ?_ (by kernel_rfl) (by kernel_rfl) (by kernel_rfl) (by kernel_rfl) (by kernel_rfl) (fun _ _ _ h => h) ?_ (by assumption) ?_
            rotate_left
            · (intro o ho w hSw; (simp only [List.getElem?_toArray, List.getElem?_cons_succ, List.getElem?_cons_zero, Option.some.injEq] at ho); subst ho; (try dsimp only at hSw); go_simp; (first | done | with_reducible rfl))
            (try simp only [Act.put, List.setIfInBounds_toArray, List.set_cons_zero, List.set_cons_succ])
            refine hand_take 1 (some 81) ?_ (by kernel_rfl) (by kernel_rfl) (by kernel_rfl) (by kernel_rfl) (by kernel_rfl) (fun _ _ _ h => h) ?_ (by assumption) ?_
            rotate_left
            · (intro o ho w hSw; (simp only [List.getElem?_toArray, List.getElem?_cons_succ, List.getElem?_cons_zero, Option.some.injEq] at ho); subst ho; (try dsimp only at hSw); go_simp; (first | done | with_reducible rfl))
            (try simp only [Act.put, List.setIfInBounds_toArray, List.set_cons_zero, List.set_cons_succ])
            refine hand_take 2 (some 82) ?_ (by kernel_rfl) (by kernel_rfl) (by kernel_rfl) (by kernel_rfl) (by kernel_rfl) (fun _ _ _ h => h) ?_ (by assumption) ?_
            rotate_left
            · (intro o ho w hSw; (simp only [List.getElem?_toArray, List.getElem?_cons_succ, List.getElem?_cons_zero, Option.some.injEq] at ho); subst ho; (try dsimp only at hSw); go_simp; (first | done | with_reducible rfl))
            (try simp only [Act.put, List.setIfInBounds_toArray, List.set_cons_zero, List.set_cons_succ])
            refine hand_take 3 (some 83) ?_ (by kernel_rfl) (by kernel_rfl) (by kernel_rfl) (by kernel_rfl) (by kernel_rfl) (fun _ _ _ h => h) ?_ (by assumption) ?_
            rotate_left
            · (intro o ho w hSw; (simp only [List.getElem?_toArray, List.getElem?_cons_succ, List.getElem?_cons_zero, Option.some.injEq] at ho); subst ho; (try dsimp only at hSw); go_simp; (first | done | with_reducible rfl))
            (try simp only [Act.put, List.setIfInBounds_toArray, List.set_cons_zero, List.set_cons_succ])
            refine hand_take 4 (some 84) ?_ (by kernel_rfl) (by kernel_rfl) (by kernel_rfl) (by kernel_rfl) (by kernel_rfl) (fun _ _ _ h => h) ?_ (by assumption) ?_
            rotate_left
            · (intro o ho w hSw; (simp only [List.getElem?_toArray, List.getElem?_cons_succ, List.getElem?_cons_zero, Option.some.injEq] at ho); subst ho; (try dsimp only at hSw); go_simp; (first | done | with_reducible rfl))
            (try simp only [Act.put, List.setIfInBounds_toArray, List.set_cons_zero, List.set_cons_succ])
            refine hand_take 5 (some 85) ?_ (by kernel_rfl) (by kernel_rfl) (by kernel_rfl) (by kernel_rfl) (by kernel_rfl) (fun _ _ _ h => h) ?_ (by assumption) ?_
            rotate_left
            · (intro o ho w hSw; (simp only [List.getElem?_toArray, List.getElem?_cons_succ, List.getElem?_cons_zero, Option.some.injEq] at ho); subst ho; (try dsimp only at hSw); go_simp; (first | done | with_reducible rfl))
            (try simp only [Act.put, List.setIfInBounds_toArray, List.set_cons_zero, List.set_cons_succ])
            refine hand_take 6 (some 86) ?_ (by kernel_rfl) (by kernel_rfl) (by kernel_rfl) (by kernel_rfl) (by kernel_rfl) (fun _ _ _ h => h) ?_ (by assumption) ?_
            rotate_left
            · (intro o ho w hSw; (simp only [List.getElem?_toArray, List.getElem?_cons_succ, List.getElem?_cons_zero, Option.some.injEq] at ho); subst ho; (try dsimp only at hSw); go_simp; (first | done | with_reducible rfl))
            (try simp only [Act.put, List.setIfInBounds_toArray, List.set_cons_zero, List.set_cons_succ])
            refine hand_take 7 (some 87) ?_ (by kernel_rfl) (by kernel_rfl) (by kernel_rfl) (by kernel_rfl) (by kernel_rfl) (fun _ _ _ h => h) ?_ (by assumption) ?_
            rotate_left
            · (intro o ho w hSw; (simp only [List.getElem?_toArray, List.getElem?_cons_succ, List.getElem?_cons_zero, Option.some.injEq] at ho); subst ho; (try dsimp only at hSw); go_simp; (first | done | with_reducible rfl))
            (try simp only [Act.put, List.setIfInBounds_toArray, List.set_cons_zero, List.set_cons_succ])
            refine hand_take 8 (some 88) ?_ (by kernel_rfl) (by kernel_rfl) (by kernel_rfl) (by kernel_rfl) (by kernel_rfl) (fun _ _ _ h => h) ?_ (by assumption) ?_
            rotate_left
            · (intro o ho w hSw; (simp only [List.getElem?_toArray, List.getElem?_cons_succ, List.getElem?_cons_zero, Option.some.injEq] at ho); subst ho; (try dsimp only at hSw); go_simp; (first | done | with_reducible rfl))
            (try simp only [Act.put, List.setIfInBounds_toArray, List.set_cons_zero, List.set_cons_succ])
            refine hand_take 9 (some 89) ?_ (by kernel_rfl) (by kernel_rfl) (by kernel_rfl) (by kernel_rfl) (by kernel_rfl) (fun _ _ _ h => h) ?_ (by assumption) ?_
            rotate_left
            · (intro o ho w hSw; (simp only [List.getElem?_toArray, List.getElem?_cons_succ, List.getElem?_cons_zero, Option.some.injEq] at ho); subst ho; (try dsimp only at hSw); go_simp; (first | done | with_reducible rfl))
            (try simp only [Act.put, List.setIfInBounds_toArray, List.set_cons_zero, List.set_cons_succ])
            refine hand_take 10 (some 90) ?_ (by kernel_rfl) (by kernel_rfl) (by kernel_rfl) (by kernel_rfl) (by kernel_rfl) (fun _ _ _ h => h) ?_ (by assumption) ?_
            rotate_left
            · (intro o ho w hSw; (simp only [List.getElem?_toArray, List.getElem?_cons_succ, List.getElem?_cons_zero, Option.some.injEq] at ho); subst ho; (try dsimp only at hSw); go_simp; (first | done | with_reducible rfl))
            (try simp only [Act.put, List.setIfInBounds_toArray, List.set_cons_zero, List.set_cons_succ])
            refine hand_ready 11 (by kernel_rfl) (by kernel_rfl) (fun o ho K hK => ?_)
            (simp only [List.getElem?_toArray, List.getElem?_cons_succ, List.getElem?_cons_zero, Option.some.injEq] at ho)
            subst ho
            go_simp
            (go_at_call 13; (with_reducible refine HCS.out.mono ?_); rintro e w11 ⟨rfl, hb11⟩; have HB2 : Hid (Below w10.heap.size w10 w11) := kept (bel_to ((Below.refl W1.heap.size W1).drew.trans hb11) HB1.out); have k11 := Keeps.of_below hb11; have HS2 := kept (show (w11.cell? ⟨wr.heap.size, 0, none⟩ = some (.slice ka kn kc) ∧ w11.cell? ⟨wr.heap.size, 1, none⟩ = some (.slice va vn vc) ∧ w11.cell? ⟨wr.heap.size, 2, none⟩ = some (.int .i64 xc) ∧ w11.cell? ⟨wr.heap.size, 3, none⟩ = some (.int .i64 xm) ∧ w11.cell? ⟨wr.heap.size, 4, none⟩ = some (.int .i64 xe) ∧ w11.cell? ⟨wr.heap.size, 5, none⟩ = some (.int .i64 xl)) ∧ w11.cell? ⟨g12, 0, none⟩ = some (.slice (some ⟨b3, o3, none⟩) t9 c3) ∧ (w11.cell? ⟨b3, o3 + u * 6, none⟩ = some (.slice la ln lc) ∧ w11.cell? ⟨b3, o3 + u * 6 + 1, none⟩ = some (.slice ua un uc) ∧ w11.cell? ⟨b3, o3 + u * 6 + 2, none⟩ = some (.int .i64 yc) ∧ w11.cell? ⟨b3, o3 + u * 6 + 3, none⟩ = some (.int .i64 ym) ∧ w11.cell? ⟨b3, o3 + u * 6 + 4, none⟩ = some (.int .i64 ye) ∧ w11.cell? ⟨b3, o3 + u * 6 + 5, none⟩ = some (.int .i64 yl)) from ⟨⟨k11.cell_ HS.out.1.1, k11.cell_ HS.out.1.2.1, k11.cell_ HS.out.1.2.2.1, k11.cell_ HS.out.1.2.2.2.1, k11.cell_ HS.out.1.2.2.2.2.1, k11.cell_ HS.out.1.2.2.2.2.2⟩, k11.cell_ HS.out.2.1, ⟨k11.cell_ HS.out.2.2.1, k11.cell_ HS.out.2.2.2.1, k11.cell_ HS.out.2.2.2.2.1, k11.cell_ HS.out.2.2.2.2.2.1, k11.cell_ HS.out.2.2.2.2.2.2.1, k11.cell_ HS.out.2.2.2.2.2.2.2⟩⟩); clear hb11 k11)
            (try go_wp2_with fail)
            refine hK.out _ _ ?_ (fun hHeld => ?_)
            · ((try dsimp only); (first | with_reducible exact HS.out | with_reducible exact HS2.out))
            clear hK K
            (try simp only [Act.put, List.setIfInBounds_toArray, List.set_cons_zero, List.set_cons_succ])
            refine hand_take 12 (some 92) ?_ (by kernel_rfl) (by kernel_rfl) (by kernel_rfl) (by kernel_rfl) (by kernel_rfl) (fun _ _ _ h => h) ?_ (by assumption) ?_
            rotate_left
            · (intro o ho w hSw; (simp only [List.getElem?_toArray, List.getElem?_cons_succ, List.getElem?_cons_zero, Option.some.injEq] at ho); subst ho; (try dsimp only at hSw); go_simp; (first | done | with_reducible rfl))
            (try simp only [Act.put, List.setIfInBounds_toArray, List.set_cons_zero, List.set_cons_succ])
            refine wpAnyH_done (by kernel_rfl) ?_ _
            go_wp2
            go_roundg (t9 - (t + 1))
            case measure => omega
            case rel => exact ⟨t + 1, by go_num, hlt, Nat.le_refl _, HB2.out⟩
          · have hltz : ¬ (t : Int) < (t9 : Int) := by omega
            go_wp2
            go_ret
            exact ⟨rfl, bel_to HB.out HX.out.1⟩
end Go.Proofs.Ytepmamfbhocjjaa.siftTurns
end
