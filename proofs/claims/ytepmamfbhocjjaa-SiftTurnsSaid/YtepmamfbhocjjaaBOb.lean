/-
  Texts laid together: Ob Oh.
-/
import Derived.Test.YtepmamfbhocjjaaBBase
import Derived.Sort.LotA
section
/-
  Rows cut in parts: an exchange, a search, a merge; what slices.SortStableFunc leans on, as plain data. No program is named.
-/
namespace Go.Proofs.Ytepmamfbhocjjaa
open Go.Sort
set_option linter.unusedVariables false
set_option linter.unusedSimpArgs false
set_option linter.unusedSectionVars false
section
variable {α : Type} [Inhabited α] {lt : α → α → Bool}
theorem cut_at (X Y : List α) (c : α) : (X ++ c :: Y).toArray[X.length]! = c := by simp
theorem cut_at2 (X Q Y : List α) (c e : α) : (X ++ c :: (Q ++ e :: Y)).toArray[X.length + 1 + Q.length]! = e := by
  have h := cut_at (X ++ c :: Q) Y e
  rw [show (X ++ c :: Q).length = X.length + 1 + Q.length by simp; omega, show (X ++ c :: Q) ++ e :: Y = X ++ c :: (Q ++ e :: Y) by simp] at h
  exact h
theorem cut_part (X B Y : List α) (t : Nat) (h : t < B.length) : (X ++ (B ++ Y)).toArray[X.length + t]! = B[t] := by
  have h1 : X.length + t < (X ++ (B ++ Y)).toArray.size := by simp; omega
  rw [getElem!_pos (X ++ (B ++ Y)).toArray (X.length + t) h1]
  simp [List.getElem_append, h]
theorem cut_mem {X B Y : List α} {e : α} (h : e ∈ B) : ∃ t, t < B.length ∧ (X ++ (B ++ Y)).toArray[X.length + t]! = e := by
  obtain ⟨t, ht, rfl⟩ := List.mem_iff_getElem.1 h
  exact ⟨t, ht, cut_part X B Y t ht⟩
/-- An exchange. -/
theorem swp_cut (X Q Y : List α) (c e : α) : swp (X ++ c :: (Q ++ e :: Y)).toArray X.length (X.length + 1 + Q.length) = (X ++ e :: (Q ++ c :: Y)).toArray := by
  unfold swp
  rw [cut_at, cut_at2, List.setIfInBounds_toArray, List.setIfInBounds_toArray]
  congr 1
  rw [List.set_append_right _ _ (Nat.le_refl _), Nat.sub_self, List.set_cons_zero]
  have h := List.set_append_right (s := X ++ e :: Q) (t := e :: Y) (X.length + 1 + Q.length) c (by simp; omega)
  rw [show X.length + 1 + Q.length - (X ++ e :: Q).length = 0 by simp; omega, List.set_cons_zero] at h
  simpa using h
theorem swp_comm (d : Array α) (i j : Nat) (hi : i < d.size) (hj : j < d.size) : swp d i j = swp d j i := by
  unfold swp
  rcases Nat.decEq i j with h | h
  · apply Array.ext_getElem?
    intro t
    simp only [Array.getElem?_setIfInBounds]
    by_cases h1 : i = t
    · by_cases h2 : j = t
      · omega
      · subst h1; simp [h2, hi]
    · by_cases h2 : j = t
      · subst h2; simp [h1, hj]
      · simp [h1, h2]
  · subst h; rfl
theorem swp_cut' (X Q Y : List α) (c e : α) : swp (X ++ c :: (Q ++ e :: Y)).toArray (X.length + 1 + Q.length) X.length = (X ++ e :: (Q ++ c :: Y)).toArray := by
  rw [swp_comm _ _ _ (by simp; omega) (by simp), swp_cut]

/-! ### a search -/
def Mono (p : Nat → Bool) (lo hi : Nat) : Prop := ∀ t u, lo ≤ t → t ≤ u → u < hi → p u = true → p t = true
def Srch (p : Nat → Bool) (lo hi i j : Nat) : Prop := lo ≤ i ∧ i ≤ j ∧ j ≤ hi ∧ (∀ t, lo ≤ t → t < i → p t = true) ∧ (∀ t, j ≤ t → t < hi → p t = false)
theorem Srch.start {p : Nat → Bool} {lo hi : Nat} (h : lo ≤ hi) : Srch p lo hi lo hi := ⟨Nat.le_refl _, h, Nat.le_refl _, fun t h1 h2 => by omega, fun t h1 h2 => by omega⟩
theorem Srch.up {p : Nat → Bool} {lo hi i j h : Nat} (s : Srch p lo hi i j) (m : Mono p lo hi) (h1 : i ≤ h) (h2 : h < j) (hp : p h = true) : Srch p lo hi (h + 1) j := by
  obtain ⟨s1, s2, s3, s4, s5⟩ := s
  exact ⟨by omega, by omega, s3, fun t a b => m t h a (by omega) (by omega) hp, s5⟩
theorem Srch.down {p : Nat → Bool} {lo hi i j h : Nat} (s : Srch p lo hi i j) (m : Mono p lo hi) (h1 : i ≤ h) (h2 : h < j) (hp : p h = false) : Srch p lo hi i h := by
  obtain ⟨s1, s2, s3, s4, s5⟩ := s
  refine ⟨s1, h1, by omega, s4, fun t a b => ?_⟩
  cases hq : p t with
  | false => rfl
  | true => rw [m h t (by omega) a b hq] at hp; cases hp

/-! ### rows in order -/
abbrev LeS (lt : α → α → Bool) (l : List α) : Prop := l.Pairwise fun a b => lt b a = false
/-- The same by places. -/
def LeI (lt : α → α → Bool) (d : Array α) (i j : Nat) : Prop := ∀ t u, i ≤ t → t ≤ u → u < j → lt d[u]! d[t]! = false
theorem LeI.of (hS : SWO lt) {X A Y : List α} (h : LeS lt A) : LeI lt (X ++ (A ++ Y)).toArray X.length (X.length + A.length) := by
  intro t u h1 h2 h3
  obtain ⟨t', rfl⟩ := Nat.exists_eq_add_of_le h1
  obtain ⟨u', rfl⟩ := Nat.exists_eq_add_of_le (Nat.le_trans h1 h2)
  rw [cut_part X A Y t' (by omega), cut_part X A Y u' (by omega)]
  rcases Nat.lt_or_ge t' u' with h4 | h4
  · exact List.pairwise_iff_getElem.1 h t' u' (by omega) (by omega) h4
  · have : t' = u' := by omega
    subst this
    exact hS.irrefl _
theorem LeS.of_le {A : List α} {X Y : List α} (h : LeI lt (X ++ (A ++ Y)).toArray X.length (X.length + A.length)) : LeS lt A := by
  rw [LeS, List.pairwise_iff_getElem]
  intro i j hi hj hij
  have := h (X.length + i) (X.length + j) (by omega) (by omega) (by omega)
  rwa [cut_part X A Y i hi, cut_part X A Y j hj] at this
theorem swo_asymm (hS : SWO lt) {a b : α} (h : lt a b = true) : lt b a = false := by
  cases h' : lt b a with
  | false => rfl
  | true => have := hS.trans _ _ _ h h'; rw [hS.irrefl] at this; cases this
/-- One ahead of a row: where it goes. -/
theorem mono_front (hS : SWO lt) {X A Y : List α} (h : LeS lt A) (c : α) : Mono (fun t => lt (X ++ (A ++ Y)).toArray[t]! c) X.length (X.length + A.length) := by
  intro t u h1 h2 h3 hu
  have hl := LeI.of hS (X := X) (Y := Y) h t u h1 h2 h3
  show lt _ c = true
  cases hq : lt (X ++ (A ++ Y)).toArray[t]! c with
  | true => rfl
  | false => have := hS.ntrans _ _ _ hl hq; rw [show lt (X ++ (A ++ Y)).toArray[u]! c = true from hu] at this; cases this
theorem mono_back (hS : SWO lt) {X A Y : List α} (h : LeS lt A) (c : α) : Mono (fun t => !lt c (X ++ (A ++ Y)).toArray[t]!) X.length (X.length + A.length) := by
  intro t u h1 h2 h3 hu
  have hl := LeI.of hS (X := X) (Y := Y) h t u h1 h2 h3
  have hu : (!lt c (X ++ (A ++ Y)).toArray[u]!) = true := hu
  rw [Bool.not_eq_true'] at hu
  show (!lt c _) = true
  rw [Bool.not_eq_true']
  exact hS.ntrans _ _ _ hu hl
theorem laid_front (hS : SWO lt) {A1 A2 : List α} {c : α} (h : LeS lt (A1 ++ A2)) (h1 : ∀ e ∈ A1, lt e c = true) (h2 : ∀ e ∈ A2, lt e c = false) : LeS lt (A1 ++ c :: A2) := by
  rw [LeS, List.pairwise_append] at h ⊢
  obtain ⟨p, q, r⟩ := h
  refine ⟨p, List.pairwise_cons.2 ⟨h2, q⟩, fun a ha b hb => ?_⟩
  rcases List.mem_cons.1 hb with rfl | hb
  · exact swo_asymm hS (h1 a ha)
  · exact r a ha b hb
theorem laid_back (hS : SWO lt) {A1 A2 : List α} {c : α} (h : LeS lt (A1 ++ A2)) (h1 : ∀ e ∈ A1, lt c e = false) (h2 : ∀ e ∈ A2, lt c e = true) : LeS lt (A1 ++ c :: A2) := by
  rw [LeS, List.pairwise_append] at h ⊢
  obtain ⟨p, q, r⟩ := h
  refine ⟨p, List.pairwise_cons.2 ⟨fun e he => swo_asymm hS (h2 e he), q⟩, fun a ha b hb => ?_⟩
  rcases List.mem_cons.1 hb with rfl | hb
  · exact h1 a ha
  · exact r a ha b hb
/-- What a search found parts a row. -/
theorem Srch.parts {p : Nat → Bool} {X A Y : List α} {s : Nat} (h : Srch p X.length (X.length + A.length) s s) : (∀ t, t < s - X.length → p (X.length + t) = true) ∧ (∀ t, s - X.length ≤ t → t < A.length → p (X.length + t) = false) := by
  obtain ⟨s1, s2, s3, s4, s5⟩ := h
  exact ⟨fun t ht => s4 _ (by omega) (by omega), fun t h1 h2 => s5 _ (by omega) (by omega)⟩
theorem Srch.take {p : Nat → Bool} {X A Y : List α} {s : Nat} {R : α → Bool} (h : Srch p X.length (X.length + A.length) s s) (hp : ∀ t, p t = R (X ++ (A ++ Y)).toArray[t]!) : (∀ e ∈ A.take (s - X.length), R e = true) ∧ (∀ e ∈ A.drop (s - X.length), R e = false) := by
  obtain ⟨h1, h2⟩ := h.parts (Y := Y)
  constructor
  · intro e he
    obtain ⟨t, ht, rfl⟩ := List.mem_iff_getElem.1 he
    have ht' : t < s - X.length ∧ t < A.length := by simpa [Nat.lt_min] using ht
    have := h1 t ht'.1
    rw [hp, cut_part X A Y t ht'.2] at this
    simpa using this
  · intro e he
    obtain ⟨t, ht, rfl⟩ := List.mem_iff_getElem.1 he
    have ht' : s - X.length + t < A.length := by simp at ht; omega
    have := h2 (s - X.length + t) (by omega) ht'
    rw [hp, cut_part X A Y _ ht'] at this
    simpa using this
/-- Two rows in order, each parted, so that all of the first parts is at most all of the second ones. -/
theorem cross_le (hS : SWO lt) {X A B Y : List α} (hA : LeS lt A) (hB : LeS lt B) {s en : Nat} (s1 : X.length ≤ s) (s2 : s ≤ X.length + A.length) (e1 : X.length + A.length ≤ en) (e2 : en ≤ X.length + A.length + B.length)
    (h1 : X.length < s → en < X.length + A.length + B.length → lt (X ++ (A ++ (B ++ Y))).toArray[en]! (X ++ (A ++ (B ++ Y))).toArray[s - 1]! = false)
    (h2 : s < X.length + A.length → X.length + A.length < en → lt (X ++ (A ++ (B ++ Y))).toArray[en - 1]! (X ++ (A ++ (B ++ Y))).toArray[s]! = true) :
    ∀ e ∈ A.take (s - X.length) ++ B.take (en - (X.length + A.length)), ∀ f ∈ A.drop (s - X.length) ++ B.drop (en - (X.length + A.length)), lt f e = false := by
  have iA := LeI.of hS (X := X) (Y := B ++ Y) hA
  have iB : LeI lt (X ++ (A ++ (B ++ Y))).toArray (X.length + A.length) (X.length + A.length + B.length) := by
    have := LeI.of hS (X := X ++ A) (Y := Y) hB
    rwa [List.length_append, List.append_assoc] at this
  have gA : ∀ t, (h : t < A.length) → (X ++ (A ++ (B ++ Y))).toArray[X.length + t]! = A[t] := fun t h => cut_part X A (B ++ Y) t h
  have gB : ∀ t, (h : t < B.length) → (X ++ (A ++ (B ++ Y))).toArray[X.length + A.length + t]! = B[t] := fun t h => by
    have := cut_part (X ++ A) B Y t h
    rwa [List.length_append, List.append_assoc] at this
  have tA : ∀ e ∈ A.take (s - X.length), ∃ t, X.length ≤ t ∧ t < s ∧ t < X.length + A.length ∧ (X ++ (A ++ (B ++ Y))).toArray[t]! = e := fun e he => by
    obtain ⟨t, ht, rfl⟩ := List.mem_iff_getElem.1 he
    have ht' : t < s - X.length ∧ t < A.length := by simpa [Nat.lt_min] using ht
    exact ⟨X.length + t, by omega, by omega, by omega, by rw [gA t ht'.2]; simp⟩
  have dA : ∀ e ∈ A.drop (s - X.length), ∃ t, s ≤ t ∧ t < X.length + A.length ∧ (X ++ (A ++ (B ++ Y))).toArray[t]! = e := fun e he => by
    obtain ⟨t, ht, rfl⟩ := List.mem_iff_getElem.1 he
    have ht' : s - X.length + t < A.length := by simp at ht; omega
    exact ⟨X.length + (s - X.length + t), by omega, by omega, by rw [gA _ ht']; simp⟩
  have tB : ∀ e ∈ B.take (en - (X.length + A.length)), ∃ t, X.length + A.length ≤ t ∧ t < en ∧ (X ++ (A ++ (B ++ Y))).toArray[t]! = e := fun e he => by
    obtain ⟨t, ht, rfl⟩ := List.mem_iff_getElem.1 he
    have ht' : t < en - (X.length + A.length) ∧ t < B.length := by simpa [Nat.lt_min] using ht
    exact ⟨X.length + A.length + t, by omega, by omega, by rw [gB t ht'.2]; simp⟩
  have dB : ∀ e ∈ B.drop (en - (X.length + A.length)), ∃ t, en ≤ t ∧ t < X.length + A.length + B.length ∧ (X ++ (A ++ (B ++ Y))).toArray[t]! = e := fun e he => by
    obtain ⟨t, ht, rfl⟩ := List.mem_iff_getElem.1 he
    have ht' : en - (X.length + A.length) + t < B.length := by simp at ht; omega
    exact ⟨X.length + A.length + (en - (X.length + A.length) + t), by omega, by omega, by rw [gB _ ht']; simp⟩
  intro e he f hf
  rcases List.mem_append.1 he with he | he <;> rcases List.mem_append.1 hf with hf | hf
  · obtain ⟨t, a1, a2, a3, rfl⟩ := tA e he
    obtain ⟨u, b1, b2, rfl⟩ := dA f hf
    exact iA t u a1 (by omega) b2
  · obtain ⟨t, a1, a2, a3, rfl⟩ := tA e he
    obtain ⟨u, b1, b2, rfl⟩ := dB f hf
    exact hS.ntrans _ _ _ (iB en u e1 b1 b2) (hS.ntrans _ _ _ (h1 (by omega) (by omega)) (iA t (s - 1) a1 (by omega) (by omega)))
  · obtain ⟨t, a1, a2, rfl⟩ := tB e he
    obtain ⟨u, b1, b2, rfl⟩ := dA f hf
    exact hS.ntrans _ _ _ (iA s u s1 b1 b2) (hS.ntrans _ _ _ (swo_asymm hS (h2 (by omega) (by omega))) (iB t (en - 1) a1 (by omega) (by omega)))
  · obtain ⟨t, a1, a2, rfl⟩ := tB e he
    obtain ⟨u, b1, b2, rfl⟩ := dB f hf
    exact iB t u a1 (by omega) b2
/-- What stands in the middle of the search of a merge: d[n-1-c] against d[c]. -/
theorem mono_mid (hS : SWO lt) {X A B Y : List α} (hA : LeS lt A) (hB : LeS lt B) {lo hi n : Nat} (l1 : X.length ≤ lo) (l2 : hi ≤ X.length + A.length) (n1 : n ≤ X.length + A.length + B.length + lo) (n2 : X.length + A.length + hi ≤ n) :
    Mono (fun c => !lt (X ++ (A ++ (B ++ Y))).toArray[n - 1 - c]! (X ++ (A ++ (B ++ Y))).toArray[c]!) lo hi := by
  have iA := LeI.of hS (X := X) (Y := B ++ Y) hA
  have iB : LeI lt (X ++ (A ++ (B ++ Y))).toArray (X.length + A.length) (X.length + A.length + B.length) := by
    have := LeI.of hS (X := X ++ A) (Y := Y) hB
    rwa [List.length_append, List.append_assoc] at this
  intro t u h1 h2 h3 hu
  have hu : (!lt (X ++ (A ++ (B ++ Y))).toArray[n - 1 - u]! (X ++ (A ++ (B ++ Y))).toArray[u]!) = true := hu
  rw [Bool.not_eq_true'] at hu
  show (!lt _ _) = true
  rw [Bool.not_eq_true']
  exact hS.ntrans _ _ _ (iB (n - 1 - u) (n - 1 - t) (by omega) (by omega) (by omega)) (hS.ntrans _ _ _ hu (iA t u (by omega) h2 (by omega)))
theorem le_both {A B M N : List α} (hm : M.Perm A) (hn : N.Perm B) (h1 : LeS lt M) (h2 : LeS lt N) (h : ∀ e ∈ A, ∀ f ∈ B, lt f e = false) : LeS lt (M ++ N) := by
  rw [LeS, List.pairwise_append]
  exact ⟨h1, h2, fun a ha b hb => h a (hm.mem_iff.1 ha) b (hn.mem_iff.1 hb)⟩
end
end Go.Proofs.Ytepmamfbhocjjaa
end

section
/-
  A row in blocks of one length, each in order; insertion at a part of a row. No program is named.
-/
namespace Go.Proofs.Ytepmamfbhocjjaa
open Go.Sort
set_option linter.unusedVariables false
set_option linter.unusedSimpArgs false
set_option linter.unusedSectionVars false
section
variable {α : Type} [Inhabited α] {lt : α → α → Bool}
def blkL (bs j : Nat) (l : List α) : List α := (l.drop (j * bs)).take bs
theorem blk_in {X R R' : List α} {bs j : Nat} (h : (j + 1) * bs ≤ X.length) : blkL bs j (X ++ R) = blkL bs j (X ++ R') := by
  have h' : j * bs + bs ≤ X.length := by rwa [Nat.add_mul, Nat.one_mul] at h
  unfold blkL
  rw [List.drop_append_of_le_length (by omega), List.drop_append_of_le_length (by omega), List.take_append_of_le_length (by rw [List.length_drop]; omega), List.take_append_of_le_length (by rw [List.length_drop]; omega)]
theorem blk_out {X X' R : List α} {bs j : Nat} (hl : X.length = X'.length) (h : X.length ≤ j * bs) : blkL bs j (X ++ R) = blkL bs j (X' ++ R) := by
  unfold blkL
  obtain ⟨t, ht⟩ := Nat.exists_eq_add_of_le h
  rw [ht, List.drop_length_add_append, hl, List.drop_length_add_append]
theorem blk_at {X A Y : List α} {bs j : Nat} (h : X.length = j * bs) (hA : A.length = bs ∨ (A.length ≤ bs ∧ Y = [])) : blkL bs j (X ++ (A ++ Y)) = A := by
  unfold blkL
  rw [← h, List.drop_left]
  rcases hA with hA | ⟨hA, rfl⟩
  · rw [← hA, List.take_left]
  · rw [List.append_nil, List.take_of_length_le hA]
theorem cut2L (l : List α) (a b : Nat) (hab : a ≤ b) (hb : b ≤ l.length) : ∃ X A Y, l = X ++ (A ++ Y) ∧ X.length = a ∧ a + A.length = b ∧ b + Y.length = l.length := by
  refine ⟨l.take a, (l.drop a).take (b - a), (l.drop a).drop (b - a), ?_, ?_, ?_, ?_⟩
  · rw [List.take_append_drop, List.take_append_drop]
  · rw [List.length_take]; omega
  · rw [List.length_take, List.length_drop]; omega
  · rw [List.length_drop, List.length_drop]; omega
theorem cut3L (l : List α) (a m b : Nat) (ham : a ≤ m) (hmb : m ≤ b) (hb : b ≤ l.length) : ∃ X A B Y, l = X ++ (A ++ (B ++ Y)) ∧ X.length = a ∧ a + A.length = m ∧ m + B.length = b ∧ b + Y.length = l.length := by
  obtain ⟨X, A, R, rfl, h1, h2, h3⟩ := cut2L l a m ham (by omega)
  have hR : b - m ≤ R.length := by simp at hb; omega
  refine ⟨X, A, R.take (b - m), R.drop (b - m), by rw [List.take_append_drop], h1, h2, ?_, ?_⟩
  · rw [List.length_take]; omega
  · simp only [List.length_append, List.length_drop]; omega
/-- The blocks below q are in order. -/
def BlkTo (lt : α → α → Bool) (bs q : Nat) (l : List α) : Prop := ∀ j, j < q → LeS lt (blkL bs j l)
def BlkFrom (lt : α → α → Bool) (bs q : Nat) (l : List α) : Prop := ∀ j, q ≤ j → LeS lt (blkL bs j l)
theorem BlkTo.next {X A A' Y : List α} {bs q : Nat} (h : BlkTo lt bs q (X ++ (A ++ Y))) (hx : X.length = q * bs) (hA' : LeS lt A') (hA : A'.length = bs ∨ (A'.length ≤ bs ∧ Y = [])) : BlkTo lt bs (q + 1) (X ++ (A' ++ Y)) := by
  intro j hj
  rcases Nat.lt_or_ge j q with h1 | h1
  · rw [blk_in (R' := A ++ Y) (by rw [hx]; exact Nat.mul_le_mul_right _ h1)]
    exact h j h1
  · obtain rfl : j = q := by omega
    rw [blk_at hx hA]
    exact hA'
/-- Behind the last block there is nothing. -/
theorem BlkTo.all {l : List α} {bs q : Nat} (h : BlkTo lt bs q l) (hl : l.length ≤ q * bs) : BlkFrom lt bs 0 l := by
  intro j _
  rcases Nat.lt_or_ge j q with h1 | h1
  · exact h j h1
  · have : blkL bs j l = [] := by
      unfold blkL
      rw [List.drop_eq_nil_of_le (Nat.le_trans hl (Nat.mul_le_mul_right _ h1)), List.take_nil]
    rw [this]
    exact .nil
theorem BlkFrom.next {X A A' Y : List α} {bs q q' : Nat} (h : BlkFrom lt bs q (X ++ (A ++ Y))) (hl : A'.length = A.length) (hx : X.length + A.length ≤ q' * bs) (hq : q ≤ q') : BlkFrom lt bs q' (X ++ (A' ++ Y)) := by
  intro j hj
  have := h j (by omega)
  rw [← List.append_assoc] at this ⊢
  rw [blk_out (X' := X ++ A) (by simp [hl]) (by simp only [List.length_append, hl]; exact Nat.le_trans hx (Nat.mul_le_mul_right _ hj))]
  exact this
/-- What insertion does, in a row cut in three. -/
theorem ins_part (hS : SWO lt) (X A Y : List α) : ∃ A', A'.Perm A ∧ LeS lt A' ∧ insertionSort lt (X ++ (A ++ Y)).toArray X.length (X.length + A.length) = (X ++ (A' ++ Y)).toArray := by
  obtain ⟨⟨h1, h2, h3⟩, h4⟩ := insertionSort_holds (lt := lt) hS (X ++ (A ++ Y)).toArray X.length (X.length + A.length) (Nat.le_add_right _ _) (by simp)
  generalize insertionSort lt (X ++ (A ++ Y)).toArray X.length (X.length + A.length) = d at h1 h2 h3 h4
  obtain ⟨l⟩ := d
  have hl : l.length = X.length + (A.length + Y.length) := by simpa using h1
  obtain ⟨X', A', Y', rfl, l1, l2, l3⟩ := cut2L l X.length (X.length + A.length) (Nat.le_add_right _ _) (by omega)
  simp only [List.length_append] at hl l3
  have hA' : A'.length = A.length := by omega
  have hY' : Y'.length = Y.length := by omega
  have at1 : ∀ t, (h : t < X'.length) → (X' ++ (A' ++ Y')).toArray[t]! = X'[t] := fun t h => by
    have := cut_part [] X' (A' ++ Y') t h
    simpa using this
  have at2 : ∀ t, (h : t < X.length) → (X ++ (A ++ Y)).toArray[t]! = X[t] := fun t h => by
    have := cut_part [] X (A ++ Y) t h
    simpa using this
  have eX : X' = X := by
    apply List.ext_getElem l1
    intro t a b
    rw [← at1 t a, ← at2 t b]
    exact h2 t (.inl b)
  have eY : Y' = Y := by
    apply List.ext_getElem hY'
    intro t a b
    have e1 := cut_part (X' ++ A') Y' [] t a
    have e2 := cut_part (X ++ A) Y [] t b
    simp only [List.append_nil, List.append_assoc, List.length_append] at e1 e2
    rw [← e1, ← e2, show X'.length + A'.length = X.length + A.length by omega]
    exact h2 _ (.inr (by omega))
  subst eX eY
  refine ⟨A', ?_, ?_, rfl⟩
  · have f1 : ((X' ++ (A' ++ Y')).toArray.extract X'.length (X'.length + A.length)).toList = A' := by
      rw [← hA']
      simp
    have f2 : ((X' ++ (A ++ Y')).toArray.extract X'.length (X'.length + A.length)).toList = A := by simp
    rw [f1, f2] at h3
    exact h3
  · apply LeS.of_le (X := X') (Y := Y')
    intro t u a b c
    rw [hA'] at c
    rcases Nat.lt_or_ge t u with h | h
    · exact h4 t u a h c
    · obtain rfl : t = u := by omega
      exact hS.irrefl _
end
end Go.Proofs.Ytepmamfbhocjjaa
end
