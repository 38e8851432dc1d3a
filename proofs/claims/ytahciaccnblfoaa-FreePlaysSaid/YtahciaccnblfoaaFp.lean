/-
  The document's own list of layer 6 (terrierref06.List), whose signs stand for a list of the developers': what its calls answer and leave.
-/
import Derived.Test.YtahciaccnblfoaaFo
namespace Go.Proofs.Ytahciaccnblfoaa
open Go.ChangeShapes Go.WideShapes Go.ChangeAt Go.RowKit
set_option linter.unusedVariables false
set_option linter.unusedSimpArgs false

/-! ### signs -/
def sg (s : FSt) (x : Int) : Int := if x ∈ s.S then 1 else if x ∈ s.H then 2 else 0
def SimG (s : FSt) (G : List Int) : Prop := (G.length : Int) = s.z ∧ ∀ i (h : i < G.length), G[i] = sg s (i : Int)
def Dis (s : FSt) : Prop := ∀ x, x ∈ s.S → x ∉ s.H
section
variable {s : FSt} {G : List Int} {x : Int} {k : Nat}
theorem sg_one : sg s x = 1 ↔ x ∈ s.S := by
  unfold sg
  by_cases h1 : x ∈ s.S
  · simp [h1]
  · by_cases h2 : x ∈ s.H <;> simp [h1, h2]
theorem sg_zero : sg s x = 0 ↔ x ∉ s.S ∧ x ∉ s.H := by
  unfold sg
  by_cases h1 : x ∈ s.S
  · simp [h1]
  · by_cases h2 : x ∈ s.H <;> simp [h1, h2]
theorem upto_step (a b : Int) {i k : Nat} (e : i ≠ k) : (if i < k then a else b) = if i < k + 1 then a else b := by
  by_cases h : i < k
  · rw [if_pos h, if_pos (by omega)]
  · rw [if_neg h, if_neg (by omega)]
theorem getD_at {G : List Int} {i : Nat} (h : i < G.length) : G.getD i 0 = G[i] := by simp [List.getD, h]
theorem sg_two (h : Dis s) : sg s x = 2 ↔ x ∈ s.H := by
  unfold sg
  split
  · rename_i hx
    have := h x hx
    simp_all
  · split <;> simp_all
theorem take_first (h : SimG s G) (ho : s.ok) (hk : k < G.length) (h1 : G[k] = 1) (hb : ∀ j (hj : j < G.length), j < k → G[j] ≠ 1) : ∃ S', s.S = (k : Int) :: S' := by
  have hm : (k : Int) ∈ s.S := sg_one.1 ((h.2 k hk).symm.trans h1)
  cases hS : s.S with
  | nil => rw [hS] at hm; simp at hm
  | cons y r =>
    refine ⟨r, ?_⟩
    rw [hS] at hm
    rcases List.mem_cons.1 hm with e | e
    · rw [e]
    · have hR := ho.2.2.1
      rw [hS] at hR
      have hlt := (Rising.cons.1 hR).1 _ e
      have hy := ho.2.2.2.2.1 y (by rw [hS]; exact List.mem_cons_self ..)
      obtain ⟨j, rfl⟩ := Int.eq_ofNat_of_zero_le (show 0 ≤ y by omega)
      have hjG : j < G.length := by omega
      exact absurd ((h.2 j hjG).trans (sg_one.2 (by rw [hS]; exact List.mem_cons_self ..))) (hb j hjG (by omega))
theorem none_first (h : SimG s G) (ho : s.ok) (hb : ∀ j (hj : j < G.length), G[j] ≠ 1) : s.S = [] := by
  cases hS : s.S with
  | nil => rfl
  | cons y r =>
    have hy := ho.2.2.2.2.1 y (by rw [hS]; exact List.mem_cons_self ..)
    obtain ⟨j, rfl⟩ := Int.eq_ofNat_of_zero_le (show 0 ≤ y by omega)
    have h1 := h.1
    have hjG : j < G.length := by omega
    exact absurd ((h.2 j hjG).trans (sg_one.2 (by rw [hS]; exact List.mem_cons_self ..))) (hb j hjG)
theorem SimG.take (h : SimG s G) (ho : s.ok) (hd : Dis s) {S' : List Int} (hS : s.S = (k : Int) :: S') : SimG s.take (G.set k 0) := by
  refine ⟨by rw [List.length_set]; exact h.1, fun i hi => ?_⟩
  have hR := ho.2.2.1
  rw [hS] at hR
  have hr := (Rising.cons.1 hR).1
  rw [List.getElem_set]
  split
  · rename_i e
    subst e
    refine (show sg s.take (k : Int) = 0 from sg_zero.2 ⟨fun hm => ?_, hd _ (by rw [hS]; exact List.mem_cons_self ..)⟩).symm
    have hm' : (k : Int) ∈ S' := by simpa [FSt.take, hS] using hm
    have := hr _ hm'
    omega
  · rename_i e
    rw [h.2 i (by rw [List.length_set] at hi; exact hi)]
    have e1 : ((i : Int) ∈ s.S) = ((i : Int) ∈ s.take.S) := by
      simp only [FSt.take, hS, List.tail_cons, List.mem_cons, eq_iff_iff]
      constructor
      · rintro (h | h)
        · omega
        · exact h
      · exact .inr
    simp only [sg, e1]
    rfl
theorem may_eq : s.may x = if 2 ≤ x ∧ x < s.z then (if sg s x = 0 then 0 else 8) else 2 := by
  unfold FSt.may
  by_cases hb : 2 ≤ x ∧ x < s.z
  · rw [if_pos hb, if_pos hb]
    by_cases h0 : sg s x = 0
    · rw [if_pos h0, if_neg (by have := sg_zero.1 h0; rintro (h | h); exact this.1 h; exact this.2 h)]
    · rw [if_neg h0, if_pos]
      refine Classical.not_not.1 fun hn => h0 (sg_zero.2 ⟨fun h => hn (.inl h), fun h => hn (.inr h)⟩)
  · rw [if_neg hb, if_neg hb]
theorem SimG.give (h : SimG s G) (hm : s.may x = 0) : SimG (s.give x) (G.set x.toNat 1) := by
  have hb := may_zero hm
  have hg : s.give x = { s with S := addI x s.S } := by unfold FSt.give; rw [if_pos hm]
  rw [hg]
  refine ⟨by rw [List.length_set]; exact h.1, fun i hi => ?_⟩
  rw [List.getElem_set]
  split
  · rename_i e
    exact (sg_one.2 (mem_addI.2 (.inl (by omega)))).symm
  · rename_i e
    rw [h.2 i (by rw [List.length_set] at hi; exact hi)]
    have e1 : ((i : Int) ∈ addI x s.S) = ((i : Int) ∈ s.S) := by
      rw [mem_addI, eq_iff_iff]
      constructor
      · rintro (h | h)
        · omega
        · exact h
      · exact .inr
    simp only [sg, e1]
theorem SimG.hold (h : SimG s G) (hm : s.may x = 0) : SimG (s.hold x) (G.set x.toNat 2) := by
  have hb := may_zero hm
  have hg : s.hold x = { s with H := addI x s.H } := by unfold FSt.hold; rw [if_pos hm]
  rw [hg]
  refine ⟨by rw [List.length_set]; exact h.1, fun i hi => ?_⟩
  rw [List.getElem_set]
  split
  · rename_i e
    have e2 : (i : Int) = x := by omega
    unfold sg
    rw [e2, if_neg hb.2.1, if_pos (mem_addI.2 (.inl rfl))]
  · rename_i e
    rw [h.2 i (by rw [List.length_set] at hi; exact hi)]
    have e1 : ((i : Int) ∈ addI x s.H) = ((i : Int) ∈ s.H) := by
      rw [mem_addI, eq_iff_iff]
      constructor
      · rintro (h | h)
        · omega
        · exact h
      · exact .inr
    simp only [sg, e1]
theorem SimG.settle (h : SimG s G) (hd : Dis s) {G' : List Int} (hl : G'.length = G.length) (hG : ∀ i (hi : i < G.length) (hi' : i < G'.length), G'[i] = if G[i] = 2 then 1 else G[i]) : SimG s.settle G' := by
  refine ⟨by rw [hl]; exact h.1, fun i hi => ?_⟩
  have hi0 : i < G.length := by rw [← hl]; exact hi
  rw [hG i hi0 hi, h.2 i hi0]
  by_cases h1 : (i : Int) ∈ s.S
  · rw [sg_one.2 h1, sg_one.2 (show (i : Int) ∈ s.settle.S from mem_addAll.2 (.inl h1))]
    rfl
  · by_cases h2 : (i : Int) ∈ s.H
    · rw [(sg_two hd).2 h2, sg_one.2 (show (i : Int) ∈ s.settle.S from mem_addAll.2 (.inr h2))]
      rfl
    · rw [sg_zero.2 ⟨h1, h2⟩, sg_zero.2 ⟨fun h => by rcases mem_addAll.1 h with h | h; exact h1 h; exact h2 h, fun h => by simp [FSt.settle] at h⟩]
      rfl
theorem Dis.take (h : Dis s) : Dis s.take := fun x hx => h x (List.mem_of_mem_tail hx)
theorem Dis.give (h : Dis s) (x : Int) : Dis (s.give x) := by
  unfold FSt.give
  split
  · rename_i hm
    have hb := may_zero hm
    intro y hy
    rcases mem_addI.1 hy with rfl | hy
    · exact hb.2.2
    · exact h y hy
  · exact h
theorem Dis.hold (h : Dis s) (x : Int) : Dis (s.hold x) := by
  unfold FSt.hold
  split
  · rename_i hm
    have hb := may_zero hm
    intro y hy hz
    rcases mem_addI.1 hz with rfl | hz
    · exact hb.2.1 hy
    · exact h y hy hz
  · exact h
theorem Dis.settle (h : Dis s) : Dis s.settle := fun x _ hx => by simp [FSt.settle] at hx
end
/-- The places of a sign among the first k. -/
def idx (G : List Int) (v : Int) : Nat → List Int
  | 0 => []
  | k + 1 => idx G v k ++ if G.getD k 0 = v then [(k : Int)] else []
theorem mem_idx {G : List Int} {v : Int} {k : Nat} {x : Int} : x ∈ idx G v k ↔ ∃ i : Nat, i < k ∧ x = (i : Int) ∧ G.getD i 0 = v := by
  induction k with
  | zero => simp [idx]
  | succ k ih =>
    simp only [idx, List.mem_append, ih]
    constructor
    · rintro (⟨i, h1, h2, h3⟩ | h)
      · exact ⟨i, by omega, h2, h3⟩
      · split at h
        · rename_i hv
          exact ⟨k, by omega, by simpa using h, hv⟩
        · simp at h
    · rintro ⟨i, h1, h2, h3⟩
      by_cases e : i = k
      · subst e
        right
        rw [if_pos h3]
        simp [h2]
      · exact .inl ⟨i, by omega, h2, h3⟩
theorem rising_idx (G : List Int) (v : Int) (k : Nat) : Rising (idx G v k) := by
  induction k with
  | zero => exact Rising.nil_
  | succ k ih =>
    refine List.pairwise_append.2 ⟨ih, ?_, fun a ha b hb => ?_⟩
    · split
      · exact List.pairwise_singleton _ _
      · exact List.Pairwise.nil
    · obtain ⟨i, h1, rfl, _⟩ := mem_idx.1 ha
      split at hb
      · rw [List.mem_singleton.1 hb]; omega
      · simp at hb
theorem idx_length (G : List Int) (v : Int) (k : Nat) : (idx G v k).length ≤ k := by
  induction k with
  | zero => exact Nat.le_refl _
  | succ k ih =>
    simp only [idx, List.length_append]
    split <;> simp <;> omega
theorem idx_one {s : FSt} {G : List Int} (h : SimG s G) (ho : s.ok) : idx G 1 G.length = s.S := Rising.uniq (rising_idx _ _ _) ho.2.2.1 fun x => by
  rw [mem_idx]
  constructor
  · rintro ⟨i, h1, rfl, h2⟩
    rw [getD_at h1] at h2
    exact sg_one.1 ((h.2 i h1).symm.trans h2)
  · intro hx
    have hb := ho.2.2.2.2.1 x hx
    obtain ⟨i, rfl⟩ := Int.eq_ofNat_of_zero_le (show 0 ≤ x by omega)
    have h1 := h.1
    have hi : i < G.length := by omega
    exact ⟨i, hi, rfl, by rw [getD_at hi]; exact (h.2 i hi).trans (sg_one.2 hx)⟩
theorem idx_two {s : FSt} {G : List Int} (h : SimG s G) (ho : s.ok) (hd : Dis s) : idx G 2 G.length = s.H := Rising.uniq (rising_idx _ _ _) ho.2.2.2.1 fun x => by
  rw [mem_idx]
  constructor
  · rintro ⟨i, h1, rfl, h2⟩
    rw [getD_at h1] at h2
    exact (sg_two hd).1 ((h.2 i h1).symm.trans h2)
  · intro hx
    have hb := ho.2.2.2.2.2 x hx
    obtain ⟨i, rfl⟩ := Int.eq_ofNat_of_zero_le (show 0 ≤ x by omega)
    have h1 := h.1
    have hi : i < G.length := by omega
    exact ⟨i, hi, rfl, by rw [getD_at hi]; exact (h.2 i hi).trans ((sg_two hd).2 hx)⟩

/-! ### in memory -/
def Rf (w : World) (r g : Nat) (G : List Int) : Prop := r ≠ g ∧ Blk w r 57 [.slice (some ⟨g, 0, none⟩) G.length G.length] ∧ Blk w g 3 (ints G)
section
variable {w w' : World} {r g : Nat} {G : List Int}
theorem Rf.c0 (h : Rf w r g G) : w.cell? ⟨r, 0, none⟩ = some (.slice (some ⟨g, 0, none⟩) G.length G.length) := h.2.1.cell 0
theorem Rf.at_ (h : Rf w r g G) {k : Nat} (hk : k < G.length) : w.cell? ⟨g, k, none⟩ = some (.int .i64 G[k]) := by rw [h.2.2.cell]; exact ints_get G k hk
theorem Rf.fz (h : Rf w r g G) (k : Nat) : w.frozen? ⟨g, k, none⟩ = false := h.2.2.frozen k
theorem Rf.keep (h : Rf w r g G) (e1 : w'.heap[r]? = w.heap[r]?) (e2 : w'.heap[g]? = w.heap[g]?) : Rf w' r g G := ⟨h.1, e1.trans h.2.1, e2.trans h.2.2⟩
theorem Rf.below (h : Rf w r g G) (hb : Below w.heap.size w w') : Rf w' r g G := h.keep (hb.block _ h.2.1.lt) (hb.block _ h.2.2.lt)
theorem Rf.turned (h : Rf w r g G) {T : Nat → Prop} (t : Turned w w' T) (h1 : ¬ T r) (h2 : ¬ T g) : Rf w' r g G := h.keep (t.block _ h.2.1.lt h1) (t.block _ h.2.2.lt h2)
theorem ints_set (G : List Int) (k : Nat) (v : Int) : ints (G.set k v) = (ints G).set k (.int .i64 v) := List.map_set ..
theorem Rf.put (h : Rf w r g G) (k : Nat) (v : Int) : Rf (w.setCell ⟨g, k, none⟩ (.int .i64 v)) r g (G.set k v) :=
  ⟨h.1, by rw [List.length_set]; exact h.2.1.far h.1 _, by rw [ints_set]; exact h.2.2.set_ k _⟩
end

theorem rtake_any (r g : Nat) (G : List Int) (s : FSt) (w : World) (h : Rf w r g G) (hs : SimG s G) (ho : s.ok) (hd : Dis s) :
    Calls Try.prog 19 #[.pointer (some ⟨r, 0, none⟩)] w fun e w' => e = .returned (.tuple #[.int .i64 s.taken.1, .int .i64 s.taken.2]) ∧ Hid (∃ G', Rf w' r g G' ∧ SimG s.take G' ∧ Turned w w' (fun j => j = g)) := by
  have HF := kept h
  have HS := kept hs
  have HO := kept ho
  have HD := kept hd
  have c0 := h.c0
  have hz := hs.1
  have hz2 := ho.2.1
  obtain ⟨n, hn⟩ : ∃ n, G.length = n := ⟨_, rfl⟩
  have HN := kept hn
  rw [hn] at c0 hz
  have hn2 : n ≤ 1024 := by omega
  clear h hs ho hd hn hz hz2
  go_enter Try.func19, Try.ntmps19
  go_wp2
  go_loopw [11] (fun i wr => ∃ k : Nat, k ≤ n ∧ i = .int .i64 (k : Int) ∧ Hid (∀ j (hj : j < G.length), j < k → G[j] ≠ 1) ∧ wr = w) (fun i _ => n - (intOf i).toNat)
  case atStart => exact ⟨0, Nat.zero_le _, rfl, kept (fun j _ h => absurd h (Nat.not_lt_zero _)), rfl⟩
  case round =>
    obtain ⟨k, hk, rfl, HA, rfl⟩ := hrel
    by_cases hlt : k < n
    · have hkG : k < G.length := by rw [HN.out]; exact hlt
      have hc := HF.out.at_ hkG
      have fz := HF.out.fz k
      by_cases hv : G[k] = 1
      · have HT := kept (take_first HS.out HO.out hkG hv HA.out)
        rw [hv] at hc
        clear hv hkG
        go_wp2
        go_returns
        obtain ⟨S', hS⟩ := HT.out
        have e : s.taken = ((k : Int), 0) := by unfold FSt.taken; rw [hS]
        rw [e]
        exact ⟨rfl, kept ⟨_, HF.out.put k 0, HS.out.take HO.out HD.out hS, (Turned.refl _ (fun j => j = g)).setCell (fun _ => rfl) _⟩⟩
      · have hb : (G[k] == 1) = false := by simpa using hv
        have HE : Hid (∀ j (hj : j < G.length), j < k + 1 → G[j] ≠ 1) := kept (fun j hj h => by
          by_cases e : j = k
          · subst e; exact hv
          · exact HA.out j hj (by omega))
        clear hv
        generalize G[k] = v at hc hb
        clear hkG
        go_wp2
        clear hc hb fz
        go_roundw
        case rel => exact ⟨k + 1, by omega, by go_num, HE, by first | trivial | rfl⟩
        case measure => simp [intOf]; omega
    · obtain rfl : k = n := by omega
      have HT := kept (none_first HS.out HO.out (fun j hj => HA.out j hj (by rw [← HN.out]; exact hj)))
      go_wp2
      go_returns
      have e : s.taken = (0, 9) := by unfold FSt.taken; rw [HT.out]
      have e2 : s.take = s := by
        obtain ⟨z, S, H⟩ := s
        have := HT.out
        simp only at this
        subst this
        rfl
      rw [e, e2]
      exact ⟨rfl, kept ⟨_, HF.out, HS.out, Turned.refl _ _⟩⟩

/-- A page gets a sign. -/
theorem rset_raw (r g : Nat) (G : List Int) (s s' : FSt) (x v : Int) (w : World) (h : Rf w r g G) (hs : SimG s G) (h1 : s.may x = 0 → SimG s' (G.set x.toNat v)) (h2 : s.may x ≠ 0 → s' = s) :
    Calls Try.prog 20 #[.pointer (some ⟨r, 0, none⟩), .int .i64 x, .int .i64 v] w fun e w' => e = .returned (.int .i64 (s.may x)) ∧ Hid (∃ G', Rf w' r g G' ∧ SimG s' G' ∧ Turned w w' (fun j => j = g)) := by
  have HF := kept h
  have HS := kept hs
  have H1 := kept h1
  have H2 := kept h2
  have c0 := h.c0
  have hz := hs.1
  obtain ⟨n, hn⟩ : ∃ n, G.length = n := ⟨_, rfl⟩
  have HN := kept hn
  have HNO : Hid (s.may x ≠ 0 → ∃ G', Rf w r g G' ∧ SimG s' G' ∧ Turned w w (fun j => j = g)) := kept (fun h => ⟨G, HF.out, by rw [H2.out h]; exact HS.out, Turned.refl _ _⟩)
  rw [hn] at c0 hz
  clear h hs h1 h2 hn
  by_cases hx : x < 2
  · have HE : Hid (s.may x = 2) := kept (by rw [may_eq, if_neg (by omega)])
    go_enter Try.func20, Try.ntmps20
    go_wp2
    go_ret
    exact ⟨ret_int HE.out.symm, kept (HNO.out (by rw [HE.out]; decide))⟩
  by_cases hx2 : (n : Int) ≤ x
  · have HE : Hid (s.may x = 2) := kept (by rw [may_eq, if_neg (by omega)])
    go_enter Try.func20, Try.ntmps20
    go_wp2
    go_ret
    exact ⟨ret_int HE.out.symm, kept (HNO.out (by rw [HE.out]; decide))⟩
  have hmy := may_eq (s := s) (x := x)
  rw [if_pos (by omega)] at hmy
  obtain ⟨k, rfl⟩ := Int.eq_ofNat_of_zero_le (show 0 ≤ x by omega)
  have hkn : k < n := by omega
  have hkG : k < G.length := by rw [HN.out]; exact hkn
  have hc := HF.out.at_ hkG
  have fz := HF.out.fz k
  rw [← HS.out.2 k hkG] at hmy
  by_cases hv : G[k] = 0
  · have HE : Hid (s.may (k : Int) = 0) := kept (by rw [hmy, if_pos hv])
    rw [hv] at hc
    clear hv hmy hkG
    go_enter Try.func20, Try.ntmps20
    go_wp2
    go_ret
    have h1 := H1.out HE.out
    rw [Int.toNat_natCast] at h1
    exact ⟨ret_int HE.out.symm, kept ⟨_, HF.out.put k v, h1, (Turned.refl _ (fun j => j = g)).setCell (fun _ => rfl) _⟩⟩
  · have hb : (G[k] != 0) = true := by simpa using hv
    have HE : Hid (s.may (k : Int) = 8) := kept (by rw [hmy, if_neg hv])
    clear hv hmy
    generalize G[k] = u at hc hb
    clear hkG
    go_enter Try.func20, Try.ntmps20
    go_wp2
    go_ret
    exact ⟨ret_int HE.out.symm, kept (HNO.out (by rw [HE.out]; decide))⟩
theorem rgive_any (r g : Nat) (G : List Int) (s : FSt) (x : Int) (w : World) (h : Rf w r g G) (hs : SimG s G) :
    Calls Try.prog 20 #[.pointer (some ⟨r, 0, none⟩), .int .i64 x, .int .i64 1] w fun e w' => e = .returned (.int .i64 (s.may x)) ∧ Hid (∃ G', Rf w' r g G' ∧ SimG (s.give x) G' ∧ Turned w w' (fun j => j = g)) :=
  rset_raw r g G s (s.give x) x 1 w h hs (fun hm => hs.give hm) (fun hm => by unfold FSt.give; rw [if_neg hm])
theorem rhold_any (r g : Nat) (G : List Int) (s : FSt) (x : Int) (w : World) (h : Rf w r g G) (hs : SimG s G) :
    Calls Try.prog 20 #[.pointer (some ⟨r, 0, none⟩), .int .i64 x, .int .i64 2] w fun e w' => e = .returned (.int .i64 (s.may x)) ∧ Hid (∃ G', Rf w' r g G' ∧ SimG (s.hold x) G' ∧ Turned w w' (fun j => j = g)) :=
  rset_raw r g G s (s.hold x) x 2 w h hs (fun hm => hs.hold hm) (fun hm => by unfold FSt.hold; rw [if_neg hm])

/-- Behind k rounds of Settle. -/
def SetG (w : World) (r g : Nat) (G : List Int) (k : Nat) (wr : World) : Prop :=
  ∃ G', Rf wr r g G' ∧ G'.length = G.length ∧ Turned w wr (fun j => j = g) ∧ ∀ i (h : i < G.length) (h' : i < G'.length), G'[i] = if i < k then (if G[i] = 2 then 1 else G[i]) else G[i]
theorem rsettle_any (r g : Nat) (G : List Int) (s : FSt) (w : World) (h : Rf w r g G) (hs : SimG s G) (ho : s.ok) (hd : Dis s) :
    Calls Try.prog 21 #[.pointer (some ⟨r, 0, none⟩)] w fun e w' => e = .returned (.tuple #[]) ∧ Hid (∃ G', Rf w' r g G' ∧ SimG s.settle G' ∧ Turned w w' (fun j => j = g)) := by
  have HS := kept hs
  have HD := kept hd
  have c0 := h.c0
  have hz := hs.1
  have hz2 := ho.2.1
  have H0 : Hid (SetG w r g G 0 w) := kept ⟨G, h, rfl, Turned.refl _ _, fun i h1 h2 => by rw [if_neg (by omega)]⟩
  obtain ⟨n, hn⟩ : ∃ n, G.length = n := ⟨_, rfl⟩
  have HN := kept hn
  rw [hn] at c0 hz
  have hn2 : n ≤ 1024 := by omega
  clear h hs ho hd hn hz hz2
  go_enter Try.func21, Try.ntmps21
  go_wp2
  clear c0
  go_loopw [9] (fun i wr => ∃ k : Nat, k ≤ n ∧ i = .int .i64 (k : Int) ∧ Hid (SetG w r g G k wr)) (fun i _ => n - (intOf i).toNat)
  case atStart => exact ⟨0, Nat.zero_le _, rfl, H0⟩
  case round =>
    obtain ⟨k, hk, rfl, hrel⟩ := hrel
    obtain ⟨G', hF, hl, ht, he⟩ := hrel.out
    have HF := kept hF
    have HL := kept hl
    have HT := kept ht
    have HE := kept he
    clear hF hl ht he hrel H0
    by_cases hlt : k < n
    · have hkG : k < G.length := by rw [HN.out]; exact hlt
      have hkG' : k < G'.length := by rw [HL.out]; exact hkG
      have hc := HF.out.at_ hkG'
      have c0 := HF.out.c0
      rw [HL.out, HN.out] at c0
      have fz := HF.out.fz k
      have hv0 := HE.out k hkG hkG'
      rw [if_neg (by omega)] at hv0
      by_cases hv : G'[k] = 2
      · have HE2 : Hid (SetG w r g G (k + 1) (wr.setCell ⟨g, k, none⟩ (.int .i64 1))) := kept ⟨G'.set k 1, HF.out.put k 1, by rw [List.length_set]; exact HL.out, HT.out.setCell (fun _ => rfl) _, fun i h1 h2 => by
          rw [List.getElem_set]
          split
          · rename_i e
            subst e
            rw [if_pos (by omega), if_pos (hv0 ▸ hv)]
          · rename_i e
            rw [HE.out i h1 (by rw [List.length_set] at h2; exact h2)]
            exact upto_step _ _ (Ne.symm e)⟩
        rw [hv] at hc
        clear hv hv0 hkG hkG'
        go_wp2
        clear hc c0 fz
        go_roundw
        case rel => exact ⟨k + 1, by omega, by go_num, HE2⟩
        case measure => simp [intOf]; omega
      · have HE2 : Hid (SetG w r g G (k + 1) wr) := kept ⟨G', HF.out, HL.out, HT.out, fun i h1 h2 => by
          rw [HE.out i h1 h2]
          by_cases e : i = k
          · subst e
            rw [if_neg (by omega), if_pos (by omega), if_neg (by rw [← hv0]; exact hv)]
          · exact upto_step _ _ e⟩
        have hb : (G'[k] == 2) = false := by simpa using hv
        clear hv hv0
        generalize G'[k] = v at hc hb
        clear hkG hkG'
        go_wp2
        clear hc c0 fz hb
        go_roundw
        case rel => exact ⟨k + 1, by omega, by go_num, HE2⟩
        case measure => simp [intOf]; omega
    · obtain rfl : k = n := by omega
      go_wp2
      go_returns
      exact ⟨rfl, kept ⟨G', HF.out, HS.out.settle HD.out HL.out (fun i h1 h2 => by rw [HE.out i h1 h2, if_pos (by rw [← HN.out]; exact h1)]), HT.out⟩⟩
end Go.Proofs.Ytahciaccnblfoaa
