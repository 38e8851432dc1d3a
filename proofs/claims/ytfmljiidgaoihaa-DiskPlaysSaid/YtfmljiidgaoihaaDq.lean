/-
  What Cached answers: the keys of the cache, rising.
-/
import Derived.Test.YtfmljiidgaoihaaDc
import Derived.Test.YtfmljiidgaoihaaLay
namespace Go.Proofs.Ytfmljiidgaoihaa
open Go.ChangeShapes Go.WideShapes Go.ChangeAt Go.RowKit Go.Maps Go.Sort Go.Shelf
set_option linter.unusedVariables false

/-- slices.Sort's two contracts here. -/
theorem sortsA (m : Nat) : AnyZI.SortsIn Try.prog Try.sortedA_ren Fence.wide m :=
  ⟨fun blk off cap ss W hH hblk hsz => callsIn_wide.2 (AnyM.slices_Sort_int Try.sortA blk off cap ss W hH hblk hsz), fun p cap W => callsIn_wide.2 (AnyM.slices_Sort_int_none Try.sortA p cap W)⟩
theorem keys_any (mb : Option Nat) (w : World) : Calls Try.prog 37 #[.map mb] w fun e w' =>
    e = .returned (.func (.func 49) #[] #[.pointer (some ⟨w.heap.size, 0, none⟩)]) ∧ w' = w.alloc (.cells #[.map mb] 65) :=
  (callsIn_wide (n := 6)).1 (AnyZI.keys_in Try.keysA Fence.wide 6 trivial rfl mb w)
theorem sorted_any (b nn : Nat) (D0 : DataW Value) (w : World) (hown : w.ownsMap Try.prog 3 valR b nn D0) (hmax : Maps.size D0 ≤ maxLen) (hbytes : Maps.size D0 * 8 ≤ 140737488355328) :
    Calls Try.prog 36 #[.func (.func 49) #[] #[.pointer (some ⟨w.heap.size, 0, none⟩)]] (w.alloc (.cells #[.map (some b)] 65)) fun e w' => ∃ (v : Value) (ss : List Int), e = .returned v ∧ ss.Perm (intKeys D0) ∧
      w'.ownsRow (w.heap.size + 1) 3 1 v ss.length ((ss.mergeSort (fun x y => decide (x ≤ y))).map encZ) ∧ (v = .slice none 0 0 ↔ ss = []) ∧ Below (w.heap.size + 1) (w.alloc (.cells #[.map (some b)] 65)) w' := by
  have hbl := hown.lt
  have hseq : SeqGives Fence.wide 2 Try.prog 49 #[.pointer (some ⟨w.heap.size, 0, none⟩)] encZ (fun ss => ss.Perm (intKeys D0)) (Maps.size D0) (w.alloc (.cells #[.map (some b)] 65)) :=
    AnyZI.keys_gives (ρ := Try.keysA_ren) { Try.keysA with } Fence.wide _ trivial rfl (by omega) w.heap.size b nn D0 _ (by simp) (by simp) (by
      obtain ⟨es, clock, hb, Ft, hs, hD⟩ := hown
      exact ⟨es, clock, (Below.heap_alloc _ _ b hbl).trans hb, Ft, hs, hD⟩)
  have cS := AnyZI.sorted_in Try.sortedA Fence.wide 5 trivial trivial trivial trivial rfl (by omega) (sortsA _) (enters_of Try.func48 (by kernel_rfl) rfl) 49 #[.pointer (some ⟨w.heap.size, 0, none⟩)] trivial (enters_of Try.func49 (by kernel_rfl) rfl) _ _ hmax hbytes _ hseq
  have cS' := callsIn_wide.1 cS
  have e : (w.alloc (.cells #[.map (some b)] 65)).heap.size = w.heap.size + 1 := by simp
  rw [e] at cS'
  exact cS'

theorem keys_facts {b nn : Nat} {D0 : DataW Value} {w : World} (hown : w.ownsMap Try.prog 3 valR b nn D0) : (intKeys D0).Nodup ∧ ∀ x, x ∈ intKeys D0 ↔ Maps.has D0 (.int .i64 x) = true := by
  obtain ⟨es, hD, hp, _⟩ := hown.entries keyI
  obtain ⟨es', hD', hko⟩ := hown.keysOf
  obtain rfl : es = es' := by rw [hD] at hD'; simpa using hD'
  subst hD
  have hk : ∀ p ∈ es, ∃ x, p.1 = .int .i64 x := fun p hp => by obtain ⟨v, hv⟩ := hko p hp; obtain ⟨x, _, hx, _⟩ := Maps.keyOf_i64 Try.underlying3 hv; exact ⟨x, hx⟩
  refine ⟨?_, fun x => ?_⟩
  · show (es.map fun p => _root_.Go.intOf p.1).Nodup
    refine List.pairwise_map.2 (hp.imp_of_mem fun {p q} hp' hq' hne e => hne ?_)
    obtain ⟨a, ha⟩ := hk p hp'
    obtain ⟨b, hb⟩ := hk q hq'
    rw [ha, hb] at e ⊢
    exact congrArg _ e
  · rw [has_eq, List.any_eq_true]
    show x ∈ es.map (fun p => _root_.Go.intOf p.1) ↔ _
    rw [List.mem_map]
    constructor
    · rintro ⟨p, hp', rfl⟩
      obtain ⟨a, ha⟩ := hk p hp'
      exact ⟨p, hp', by rw [ha]; simp [Lit.sameKey, _root_.Go.intOf]⟩
    · rintro ⟨p, hp', hs⟩
      obtain ⟨a, ha⟩ := hk p hp'
      rw [ha] at hs
      exact ⟨p, hp', by rw [ha]; simpa [Lit.sameKey, _root_.Go.intOf] using hs⟩
/-- What Cached answers: new memory, the cached pages' numbers, rising. -/
def CachedV (S : St) (w : World) (e : Ending) (w' : World) : Prop :=
  ∃ A c, ∃ ks : List Int, e = .returned (.slice A ks.length c) ∧ ks.Pairwise (· < ·) ∧ (∀ x, x ∈ ks ↔ (S.cache x).isSome = true) ∧ (0 < ks.length → ∃ a, A = some a ∧ ∀ i (h : i < ks.length), w'.cell? (a.add i) = some (.int .i64 ks[i])) ∧ Below w.heap.size w w'
theorem sorted_rising {ss : List Int} (h : ss.Nodup) : (ss.mergeSort (fun x y => decide (x ≤ y))).Pairwise (· < ·) := by
  have h1 := List.pairwise_mergeSort (le := fun x y : Int => decide (x ≤ y)) (fun a b c h1 h2 => by simp only [decide_eq_true_eq] at *; omega) (fun a b => by simp only [Bool.or_eq_true, decide_eq_true_eq]; omega) ss
  have h2 : (ss.mergeSort (fun x y => decide (x ≤ y))).Nodup := (List.mergeSort_perm ss _).nodup_iff.2 h
  have h3 := h1.and h2
  exact h3.imp fun {a b} h => by
    have h4 := h.1
    simp only [decide_eq_true_eq] at h4
    have h5 : a ≠ b := h.2
    omega
theorem cached_any (d : Dk) (S : St) (w : World) (h : Dsk w d S) (hd : S.done ≤ 1000000) :
    Calls Try.prog 20 #[.pointer (some ⟨d.r, 0, none⟩)] w fun e w' => CachedV S w e w' := by
  obtain ⟨k, hk, D0, hown, hca⟩ := h.2.2.2
  have hsz : Maps.size D0 ≤ 1000000 := Nat.le_trans hown.size_le (Nat.le_trans hk hd)
  obtain ⟨hkn, hkm⟩ := keys_facts hown
  have HN := kept hkn
  have HM := kept hkm
  have HCA := kept hca
  have HS := kept (sorted_any d.m k D0 w hown (by unfold maxLen; omega) (by omega))
  have c1 := h.c1
  clear h hd hk hown hca hsz hkn hkm
  go_enter Try.func20, Try.ntmps20
  go_wp2_with (first | (go_at_call 37; (with_reducible refine (keys_any _ _).mono ?_); rintro e w' ⟨rfl, rfl⟩) | (go_at_call 36; (with_reducible refine (HS.out).mono ?_); rintro e w' ⟨v, ss, rfl, hp, hrow, hnil, hb⟩; have HP := kept hp; have HROW := kept hrow; have HB := kept hb; clear hp hrow hb hnil))
  go_ret
  have hB : Below w.heap.size w w' := ((Below.refl _ w).alloc (Nat.le_refl _) _).trans (HB.out.mono (Nat.le_succ _))
  have hl : (ss.mergeSort (fun x y => decide (x ≤ y))).length = ss.length := (List.mergeSort_perm ss _).length_eq
  have hri := sorted_rising (HP.out.nodup_iff.2 HN.out)
  have hme : ∀ x, x ∈ ss.mergeSort (fun x y => decide (x ≤ y)) ↔ (S.cache x).isSome = true := fun x => by
    rw [(List.mergeSort_perm ss _).mem_iff, HP.out.mem_iff, HM.out, HCA.out.is]
    cases S.cache x <;> simp
  rcases HROW.out.2 with ⟨hv, hz⟩ | ⟨g, cap, cur, hv, hg, hh, h1, h2, h3, h4⟩
  · refine ⟨none, 0, ss.mergeSort (fun x y => decide (x ≤ y)), by rw [hl]; simp at hz; rw [hz]; exact congrArg _ hv, hri, hme, fun h => absurd h (by rw [hl]; simp at hz; rw [hz]; exact Nat.lt_irrefl _), hB⟩
  · refine ⟨some ⟨g, 0, none⟩, cap, ss.mergeSort (fun x y => decide (x ≤ y)), by rw [hl]; exact congrArg _ hv, hri, hme, fun _ => ⟨_, rfl, fun i hi => ?_⟩, hB⟩
    have := HROW.out.cells (g := g) (by subst hv; rfl) i (encZ (ss.mergeSort (fun x y => decide (x ≤ y)))[i]) (by simp)
    exact this
end Go.Proofs.Ytfmljiidgaoihaa
