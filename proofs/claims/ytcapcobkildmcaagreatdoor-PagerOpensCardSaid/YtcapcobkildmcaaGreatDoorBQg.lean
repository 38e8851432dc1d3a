/- Qg -/
import Derived.Test.YtcapcobkildmcaaGreatDoorBQe
import Derived.Test.YtcapcobkildmcaaGreatDoorBLay
import Derived.Test.YtcapcobkildmcaaGreatDoorBDq
import Derived.Test.YtcapcobkildmcaaGreatDoorBDy
section
/-
 The pages that were added: a map from numbers to bytes; its keys, rising; maps.Clone of it.
-/
namespace Go.Proofs.YtcapcobkildmcaaGreatDoor
open Go.ChangeShapes Go.WideShapes Go.ChangeAt Go.RowKit Go.Maps Go.Sort Go.Shelf
open Go.ChangeMaps Go.MapKept
set_option linter.unusedVariables false
set_option linter.unusedSimpArgs false
abbrev Adds := Int → Option (List UInt8)
def AdV (w : World) (V : Int → Option Value) (add : Adds) : Prop :=
 ∀ x, (add x = none ∧ V x = none) ∨ ∃ bs A c, add x = some bs ∧ V x = some (.slice A 256 c) ∧ OwB w A 256 c bs ∧ 2 ≤ x ∧ x < 1024
def AdM (w : World) (m : Nat) (V : Int → Option Value) (add : Adds) : Prop := Mv w m 1022 V ∧ AdV w V add
theorem addU : Tryz.prog.underlying 74 = some (.map 3 46) := by kernel_rfl
theorem addZ (w : World) : (zeroValue 46).run Tryz.prog w = .ok (.slice none 0 0) w := (zero_of_info (show (Tryz.prog.info? 46).map (fun i => (i.zero, i.size)) = some (some (.slice none 0 0), 1) by kernel_rfl)).1 w
section
variable {w w' : World} {m : Nat} {V : Int → Option Value} {add : Adds}
theorem AdV.turned (h : AdV w V add) {T : Nat → Prop} (t : Turned w w' T) (hn : ∀ g, Cl w g 5 → ¬ T g) : AdV w' V add := fun x => by
 rcases h x with h | ⟨bs, A, c, h1, h2, h3, h4⟩
 · exact .inl h
 · exact .inr ⟨bs, A, c, h1, h2, h3.turned t (fun g hg => hn g (h3.cl hg)), h4⟩
theorem AdV.some_ (h : AdV w V add) {x : Int} : (V x).isSome = (add x).isSome := by
 rcases h x with ⟨h1, h2⟩ | ⟨bs, A, c, h1, h2, _⟩ <;> simp [h1, h2]
theorem AdV.range (h : AdV w V add) {x : Int} (hx : (add x).isSome = true) : 2 ≤ x ∧ x < 1024 := by
 rcases h x with ⟨h1, h2⟩ | ⟨bs, A, c, h1, h2, _, h3⟩
 · rw [h1] at hx; simp at hx
 · exact h3
theorem AdV.empty (w : World) : AdV w (fun _ => none) (fun _ => none) := fun x => .inl ⟨rfl, rfl⟩
theorem AdV.put (h : AdV w V add) {x : Int} {bs : List UInt8} {A : Option Addr} {c : Nat} (hb : OwB w A 256 c bs) (hx : 2 ≤ x ∧ x < 1024) : AdV w (fun y => if y = x then some (.slice A 256 c) else V y) (fun y => if y = x then some bs else add y) := fun y => by
 by_cases e : y = x
 · subst e; simp only [if_true]; exact .inr ⟨bs, A, c, rfl, rfl, hb, hx⟩
 · simp only [e, if_false]; exact h y
theorem ownsMap_tight7 {H : Type} {P : Program} {k : TypeId} {R : Value → Option (DataW H × List MemPlace)} {w : World} {b n : Nat} {D : DataW H} (h : w.ownsMap P k R b n D) : w.ownsMap P k R b (Maps.size D) D := by
 obtain ⟨es, clock, hb, F, hs, rfl⟩ := h; exact ⟨es, clock, hb, F, by simp [Maps.size, length_sorted], rfl⟩
theorem rising_le {S : List Int} (hS : Rising S) (hb : ∀ x ∈ S, 2 ≤ x ∧ x < 1024) : S.length ≤ 1022 := by
 rcases hS.length_le (a := 2) (b := 1024) (fun z hz => (hb z hz).1) (fun z hz => (hb z hz).2) with h | h
 · rw [h]; exact Nat.zero_le _
 · omega
theorem Mv.tight {k : Nat} (h : Mv w m k V) (hb : ∀ x, (V x).isSome = true → 2 ≤ x ∧ x < 1024) : Mv w m 1022 V := by
 obtain ⟨D, hown, hca⟩ := h; obtain ⟨h1, h2⟩ := keys_facts hown; have hs : Maps.size D = (intKeys D).length := by
  obtain ⟨es, clock, _, F, _, rfl⟩ := hown; simp [Maps.size, intKeys]
 have h3 : (intKeys D).length ≤ 1022 := by
  rw [← (List.mergeSort_perm (intKeys D) (fun x y => decide (x ≤ y))).length_eq]; refine rising_le (sorted_rising h1) fun x hx => hb x ?_
  rw [← hca.is, ← h2 x]; exact (List.mergeSort_perm (intKeys D) _).mem_iff.1 hx
 exact ⟨D, (ownsMap_tight7 hown).mono (by omega), hca⟩
end
section
variable {ops : Array Oper} {rest : List Oper} {op : Oper} {a : Act} {w : World} {Q : Exit → Act → World → Prop} {m k : Nat} {f : Int → Option Value}
end
def keysL (add : Adds) : List Int := ((List.range 1024).map (fun i : Nat => (i : Int))).filter fun x => (add x).isSome
theorem keysL_rising (add : Adds) : Rising (keysL add) := by
 refine List.Pairwise.sublist List.filter_sublist ?_; rw [List.pairwise_map]; exact List.pairwise_lt_range.imp fun h => by omega
theorem mem_keysL {add : Adds} (hb : ∀ x, (add x).isSome = true → 2 ≤ x ∧ x < 1024) (x : Int) : x ∈ keysL add ↔ (add x).isSome = true := by
 unfold keysL; rw [List.mem_filter, List.mem_map]; constructor
 · exact fun h => h.2
 · intro h; have := hb x h; exact ⟨⟨x.toNat, by rw [List.mem_range]; omega, by omega⟩, h⟩
def adSh (add : Adds) : List Sheet := (keysL add).map fun x => (x, (add x).getD [])
theorem keysM_any (mb : Option Nat) (w : World) : Calls Tryz.prog 107 #[.map mb] w fun e w' =>
 e = .returned (.func (.func 168) #[] #[.pointer (some ⟨w.heap.size, 0, none⟩)]) ∧ w' = w.alloc (.cells #[.map mb] 74) :=
 (callsIn_wide (n := 6)).1 (AnyZI.keys_in Tryz.keysA Fence.wide 6 trivial rfl mb w)
theorem sortedM_any (b nn : Nat) (D0 : DataW Value) (w : World) (hown : w.ownsMap Tryz.prog 3 valR b nn D0) (hmax : Maps.size D0 ≤ maxLen) (hbytes : Maps.size D0 * 8 ≤ 140737488355328) :
 Calls Tryz.prog 106 #[.func (.func 168) #[] #[.pointer (some ⟨w.heap.size, 0, none⟩)]] (w.alloc (.cells #[.map (some b)] 74)) fun e w' => ∃ (v : Value) (ss : List Int), e = .returned v ∧ ss.Perm (intKeys D0) ∧
  w'.ownsRow (w.heap.size + 1) 3 1 v ss.length ((ss.mergeSort (fun x y => decide (x ≤ y))).map encZ) ∧ (v = .slice none 0 0 ↔ ss = []) ∧ Below (w.heap.size + 1) (w.alloc (.cells #[.map (some b)] 74)) w' := by
 have hbl := hown.lt; have hseq : SeqGives Fence.wide 2 Tryz.prog 168 #[.pointer (some ⟨w.heap.size, 0, none⟩)] encZ (fun ss => ss.Perm (intKeys D0)) (Maps.size D0) (w.alloc (.cells #[.map (some b)] 74)) :=
  AnyZI.keys_gives (ρ := Tryz.keysA_ren) { Tryz.keysA with } Fence.wide _ trivial rfl (by omega) w.heap.size b nn D0 _ (by simp) (by simp) (by
   obtain ⟨es, clock, hb, Ft, hs, hD⟩ := hown; exact ⟨es, clock, (Below.heap_alloc _ _ b hbl).trans hb, Ft, hs, hD⟩)
 have cS := AnyZI.sorted_in Tryz.sortedA Fence.wide 5 trivial trivial trivial trivial rfl (by omega) (sortsA _) (enters_of Tryz.func74 (by kernel_rfl) rfl) 168 #[.pointer (some ⟨w.heap.size, 0, none⟩)] trivial (enters_of Tryz.func168 (by kernel_rfl) rfl) _ _ hmax hbytes _ hseq; have cS' := callsIn_wide.1 cS; have e : (w.alloc (.cells #[.map (some b)] 74)).heap.size = w.heap.size + 1 := by simp
 rw [e] at cS'; exact cS'
theorem sortedK_any (m : Nat) (V : Int → Option Value) (add : Adds) (w : World) (h : AdM w m V add) :
 Calls Tryz.prog 106 #[.func (.func 168) #[] #[.pointer (some ⟨w.heap.size, 0, none⟩)]] (w.alloc (.cells #[.map (some m)] 74)) fun e w' => ∃ A n c, e = .returned (.slice A n c) ∧ Hid (RdI w' A n (keysL add) ∧ n ≤ 1022 ∧ Below w.heap.size w w') := by
 obtain ⟨⟨D, hown, hca⟩, hv⟩ := h; obtain ⟨hkn, hkm⟩ := keys_facts hown; have hsz : Maps.size D ≤ 1022 := hown.size_le; refine (sortedM_any m _ D w hown (by unfold maxLen; omega) (by omega)).mono ?_; rintro e w' ⟨v, ss, rfl, hp, hrow, hnil, hb⟩; have hl : (ss.mergeSort (fun x y => decide (x ≤ y))).length = ss.length := (List.mergeSort_perm ss _).length_eq; have hks : ss.mergeSort (fun x y => decide (x ≤ y)) = keysL add := Rising.uniq (sorted_rising (hp.nodup_iff.2 hkn)) (keysL_rising add) fun x => by
  rw [mem_keysL (fun x => hv.range), (List.mergeSort_perm ss _).mem_iff, hp.mem_iff, hkm, hca.is, hv.some_]
 have hB : Below w.heap.size w w' := ((Below.refl _ w).alloc (Nat.le_refl _) _).trans (hb.mono (Nat.le_succ _)); have hlen : (keysL add).length = ss.length := by rw [← hks, hl]
 have hle : ss.length ≤ 1022 := by rw [← hlen]; exact rising_le (keysL_rising add) fun x hx => hv.range ((mem_keysL (fun x => hv.range) x).1 hx)
 rw [hks] at hrow; rcases hrow.2 with ⟨hv', hz⟩ | ⟨g, cap, cur, hv', hg, hh, h1, h2, h3, h4⟩
 · subst hv'; exact ⟨none, 0, 0, rfl, kept ⟨⟨by rw [hlen, hz], fun h0 => absurd h0 (by omega)⟩, by omega, hB⟩⟩
 · subst hv'; refine ⟨some ⟨g, 0, none⟩, ss.length, cap, rfl, kept ⟨⟨hlen, fun h0 => ⟨g, 0, rfl, fun j hj => ?_⟩⟩, hle, hB⟩⟩; have := hrow.cells (g := g) rfl j (encZ (keysL add)[j]) (by simp); rw [add_at] at this; exact this
end Go.Proofs.YtcapcobkildmcaaGreatDoor
end
