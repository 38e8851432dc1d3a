/-
  Texts laid together: Qg.
-/
import Derived.Test.YtdjcahhofonclaaGreatDoorBQe
import Derived.Test.YtdjcahhofonclaaGreatDoorBLay
import Derived.Test.YtdjcahhofonclaaGreatDoorBDq
import Derived.Test.YtdjcahhofonclaaGreatDoorBDy
section
/-
  The pages that were added: a map from numbers to bytes; its keys, rising; maps.Clone of it.
-/
namespace Go.Proofs.YtdjcahhofonclaaGreatDoor
open Go.ChangeShapes Go.WideShapes Go.ChangeAt Go.RowKit Go.Maps Go.Sort Go.Shelf
open Go.ChangeMaps Go.MapKept
set_option linter.unusedVariables false
set_option linter.unusedSimpArgs false

abbrev Adds := Int → Option (List UInt8)
/-- What the map holds reads so. -/
def AdV (w : World) (V : Int → Option Value) (add : Adds) : Prop :=
  ∀ x, (add x = none ∧ V x = none) ∨ ∃ bs A c, add x = some bs ∧ V x = some (.slice A 256 c) ∧ OwB w A 256 c bs ∧ 2 ≤ x ∧ x < 1024
def AdM (w : World) (m : Nat) (V : Int → Option Value) (add : Adds) : Prop := Mv w m 1022 V ∧ AdV w V add
/-- The blocks of the bytes. -/
def byB (V : Int → Option Value) (g : Nat) : Prop := ∃ x A n c, V x = some (.slice A n c) ∧ blkOf A = some g
theorem addU : Tryz.prog.underlying 48 = some (.map 3 62) := by kernel_rfl
theorem addZ (w : World) : (zeroValue 62).run Tryz.prog w = .ok (.slice none 0 0) w := (zero_of_info (show (Tryz.prog.info? 62).map (fun i => (i.zero, i.size)) = some (some (.slice none 0 0), 1) by kernel_rfl)).1 w
section
variable {w w' : World} {m : Nat} {V : Int → Option Value} {add : Adds}
theorem AdV.turned (h : AdV w V add) {T : Nat → Prop} (t : Turned w w' T) (hn : ∀ g, Cl w g 5 → ¬ T g) : AdV w' V add := fun x => by
  rcases h x with h | ⟨bs, A, c, h1, h2, h3, h4⟩
  · exact .inl h
  · exact .inr ⟨bs, A, c, h1, h2, h3.turned t (fun g hg => hn g (h3.cl hg)), h4⟩
theorem AdV.below (h : AdV w V add) (hb : Below w.heap.size w w') : AdV w' V add := h.turned (Turned.of_below hb (fun _ => False)) fun _ _ h => h
theorem AdV.by_cl (h : AdV w V add) {g : Nat} (hg : byB V g) : Cl w g 5 := by
  obtain ⟨x, A, n, c, h1, h2⟩ := hg
  rcases h x with ⟨_, h0⟩ | ⟨bs, A', c', _, h3, h4, _⟩
  · rw [h0] at h1; cases h1
  · rw [h3] at h1
    simp only [Option.some.injEq, Value.slice.injEq] at h1
    obtain ⟨rfl, rfl, rfl⟩ := h1
    exact h4.cl h2
theorem AdV.some_ (h : AdV w V add) {x : Int} : (V x).isSome = (add x).isSome := by
  rcases h x with ⟨h1, h2⟩ | ⟨bs, A, c, h1, h2, _⟩ <;> simp [h1, h2]
theorem AdV.range (h : AdV w V add) {x : Int} (hx : (add x).isSome = true) : 2 ≤ x ∧ x < 1024 := by
  rcases h x with ⟨h1, h2⟩ | ⟨bs, A, c, h1, h2, _, h3⟩
  · rw [h1] at hx; simp at hx
  · exact h3
theorem AdV.empty (w : World) : AdV w (fun _ => none) (fun _ => none) := fun x => .inl ⟨rfl, rfl⟩
theorem AdV.put (h : AdV w V add) {x : Int} {bs : List UInt8} {A : Option Addr} {c : Nat} (hb : OwB w A 256 c bs) (hx : 2 ≤ x ∧ x < 1024) : AdV w (fun y => if y = x then some (.slice A 256 c) else V y) (fun y => if y = x then some bs else add y) := fun y => by
  by_cases e : y = x
  · subst e
    simp only [if_true]
    exact .inr ⟨bs, A, c, rfl, rfl, hb, hx⟩
  · simp only [e, if_false]
    exact h y
theorem AdV.del (h : AdV w V add) (x : Int) : AdV w (fun y => if y = x then none else V y) (fun y => if y = x then none else add y) := fun y => by
  by_cases e : y = x
  · simp [e]
  · simp only [e, if_false]
    exact h y

theorem ownsMap_tight7 {H : Type} {P : Program} {k : TypeId} {R : Value → Option (DataW H × List MemPlace)} {w : World} {b n : Nat} {D : DataW H} (h : w.ownsMap P k R b n D) : w.ownsMap P k R b (Maps.size D) D := by
  obtain ⟨es, clock, hb, F, hs, rfl⟩ := h
  exact ⟨es, clock, hb, F, by simp [Maps.size, length_sorted], rfl⟩
theorem rising_le {S : List Int} (hS : Rising S) (hb : ∀ x ∈ S, 2 ≤ x ∧ x < 1024) : S.length ≤ 1022 := by
  rcases hS.length_le (a := 2) (b := 1024) (fun z hz => (hb z hz).1) (fun z hz => (hb z hz).2) with h | h
  · rw [h]; exact Nat.zero_le _
  · omega
/-- Keys in bounds: no more of them than there are pages. -/
theorem Mv.tight {k : Nat} (h : Mv w m k V) (hb : ∀ x, (V x).isSome = true → 2 ≤ x ∧ x < 1024) : Mv w m 1022 V := by
  obtain ⟨D, hown, hca⟩ := h
  obtain ⟨h1, h2⟩ := keys_facts hown
  have hs : Maps.size D = (intKeys D).length := by
    obtain ⟨es, clock, _, F, _, rfl⟩ := hown
    simp [Maps.size, intKeys]
  have h3 : (intKeys D).length ≤ 1022 := by
    rw [← (List.mergeSort_perm (intKeys D) (fun x y => decide (x ≤ y))).length_eq]
    refine rising_le (sorted_rising h1) fun x hx => hb x ?_
    rw [← hca.is, ← h2 x]
    exact (List.mergeSort_perm (intKeys D) _).mem_iff.1 hx
  exact ⟨D, (ownsMap_tight7 hown).mono (by omega), hca⟩
theorem Ca.del7 {D : DataW Value} {f : Int → Option Value} (h : Ca D f) (x : Int) : Ca (D.del (.int .i64 x)) (fun y => if y = x then none else f y) := by
  intro y
  by_cases hy : y = x
  · subst hy
    simp only [if_true]
    exact ⟨fun _ => ⟨Maps.has_del_same, fun z => Maps.atKey_del_same z⟩, fun u hu => by cases hu⟩
  · simp only [hy, if_false]
    have hne := lit_ne hy
    refine ⟨fun e => ?_, fun u hu => ?_⟩
    · rw [Maps.has_del_other hne]
      exact ⟨((h y).1 e).1, fun z => by rw [Maps.atKey_del_other hne]; exact ((h y).1 e).2 z⟩
    · rw [Maps.has_del_other hne]
      exact ⟨((h y).2 u hu).1, fun z => by rw [Maps.atKey_del_other hne]; exact ((h y).2 u hu).2 z⟩
theorem Mv.del {T e : TypeId} {k : Nat} (h : Mv w m k V) (hT : Tryz.prog.underlying T = some (.map 3 e)) {x : Int} (hx : Wf x) (ty : TypeId) :
    ∃ w', (Builtin.delete_ #[T, 3] ty #[.map (some m), .int .i64 x]).run Tryz.prog w = .ok (.tuple #[]) w' ∧ Mv w' m k (fun y => if y = x then none else V y) ∧ w.grownBy w' (some m) := by
  obtain ⟨D, h, hc⟩ := h
  obtain ⟨w', hrun, h', ht⟩ := h.drop keyI hT (key_mk hx) ty
  exact ⟨w', hrun, ⟨_, h', hc.del7 x⟩, ht.grown⟩
end
section
variable {ops : Array Oper} {rest : List Oper} {op : Oper} {a : Act} {w : World} {Q : Exit → Act → World → Prop} {m k : Nat} {f : Int → Option Value}
theorem wpList_del_mv (hgd : op.guard = none) (T e : TypeId) (x y : Operand) (ho : op.op = .call { callee := .builtin .delete, args := #[x, y], argTypes := #[T, 3] }) (hT : Tryz.prog.underlying T = some (.map 3 e))
    (h : Mv w m k f) (hx : a.eval x = .map (some m)) (p : Int) (hy : a.eval y = .int .i64 p) (hp : Wf p)
    (hK : ∀ w', Mv w' m k (fun y => if y = p then none else f y) → w.grownBy w' (some m) → wpList Tryz.prog ops Q rest (a.put op.dst (.tuple #[])) w') : wpList Tryz.prog ops Q (op :: rest) a w :=
  wpList_plain hgd fun _ hK' => by
    obtain ⟨w', hrun, h1, h2⟩ := h.del hT hp op.type
    unfold Oper.wp
    simp [execOp, ho, resolve, invoke, builtin, hx, hy, hrun, Result.andThen]
    exact hK' _ _ (hK w' h1 h2)
end

/-! ### maps.Clone -/
theorem cloneV_any (m k : Nat) (f : Int → Option Value) (w : World) (h : Mv w m k f) :
    Calls Tryz.prog 94 #[.map (some m)] w fun e w' => e = .returned (.map (some w.heap.size)) ∧ Hid (Mv w' w.heap.size k f ∧ Below w.heap.size w w') := by
  obtain ⟨D, ⟨es, clock, hb, F, hs, hD⟩, hca⟩ := h
  have H : Hid (Mv (w.alloc (.map es clock)) w.heap.size k f ∧ Below w.heap.size w (w.alloc (.map es clock))) := kept ⟨⟨D, ⟨es, clock, heap_alloc_new w _, F, hs, hD⟩, hca⟩, (Below.refl _ w).alloc (Nat.le_refl _) _⟩
  clear F hs hD hca
  have hq := fun w => run_eql_map_nil_sl (P := Tryz.prog) w 48 _ _ (some m) addU
  have hc := fun ty => @run_typeAssert_map_sl Tryz.prog (w.alloc (.map es clock)) 48 ty _ _ (.map (some w.heap.size)) addU
  have hx : (callFunc 132 #[.iface 48 (.map (some m))]).run Tryz.prog w = .ok (.value (.iface 48 (.map (some w.heap.size)))) (w.alloc (.map es clock)) := by
    rw [run_callFunc_extern Tryz.func132 (by kernel_rfl) (by kernel_rfl) (by kernel_rfl) (e := Extern.MapsClone.clone) (by kernel_rfl), run_maps_clone_sl w 48 hb]
    rfl
  clear hb
  go_enter Tryz.func94, Tryz.ntmps94
  go_wp2
  go_ret
  exact ⟨rfl, H⟩

/-! ### the keys, rising -/
def keysL (add : Adds) : List Int := ((List.range 1024).map (fun i : Nat => (i : Int))).filter fun x => (add x).isSome
theorem keysL_rising (add : Adds) : Rising (keysL add) := by
  refine List.Pairwise.sublist List.filter_sublist ?_
  rw [List.pairwise_map]
  exact List.pairwise_lt_range.imp fun h => by omega
theorem mem_keysL {add : Adds} (hb : ∀ x, (add x).isSome = true → 2 ≤ x ∧ x < 1024) (x : Int) : x ∈ keysL add ↔ (add x).isSome = true := by
  unfold keysL
  rw [List.mem_filter, List.mem_map]
  constructor
  · exact fun h => h.2
  · intro h
    have := hb x h
    exact ⟨⟨x.toNat, by rw [List.mem_range]; omega, by omega⟩, h⟩
def adSh (add : Adds) : List Sheet := (keysL add).map fun x => (x, (add x).getD [])
theorem keysM_any (mb : Option Nat) (w : World) : Calls Tryz.prog 84 #[.map mb] w fun e w' =>
    e = .returned (.func (.func 126) #[] #[.pointer (some ⟨w.heap.size, 0, none⟩)]) ∧ w' = w.alloc (.cells #[.map mb] 48) :=
  (callsIn_wide (n := 6)).1 (AnyZI.keys_in Tryz.keysA Fence.wide 6 trivial rfl mb w)
theorem sortedM_any (b nn : Nat) (D0 : DataW Value) (w : World) (hown : w.ownsMap Tryz.prog 3 valR b nn D0) (hmax : Maps.size D0 ≤ maxLen) (hbytes : Maps.size D0 * 8 ≤ 140737488355328) :
    Calls Tryz.prog 83 #[.func (.func 126) #[] #[.pointer (some ⟨w.heap.size, 0, none⟩)]] (w.alloc (.cells #[.map (some b)] 48)) fun e w' => ∃ (v : Value) (ss : List Int), e = .returned v ∧ ss.Perm (intKeys D0) ∧
      w'.ownsRow (w.heap.size + 1) 3 1 v ss.length ((ss.mergeSort (fun x y => decide (x ≤ y))).map encZ) ∧ (v = .slice none 0 0 ↔ ss = []) ∧ Below (w.heap.size + 1) (w.alloc (.cells #[.map (some b)] 48)) w' := by
  have hbl := hown.lt
  have hseq : SeqGives Fence.wide 2 Tryz.prog 126 #[.pointer (some ⟨w.heap.size, 0, none⟩)] encZ (fun ss => ss.Perm (intKeys D0)) (Maps.size D0) (w.alloc (.cells #[.map (some b)] 48)) :=
    AnyZI.keys_gives (ρ := Tryz.keysA_ren) { Tryz.keysA with } Fence.wide _ trivial rfl (by omega) w.heap.size b nn D0 _ (by simp) (by simp) (by
      obtain ⟨es, clock, hb, Ft, hs, hD⟩ := hown
      exact ⟨es, clock, (Below.heap_alloc _ _ b hbl).trans hb, Ft, hs, hD⟩)
  have cS := AnyZI.sorted_in Tryz.sortedA Fence.wide 5 trivial trivial trivial trivial rfl (by omega) (sortsA _) (enters_of Tryz.func125 (by kernel_rfl) rfl) 126 #[.pointer (some ⟨w.heap.size, 0, none⟩)] trivial (enters_of Tryz.func126 (by kernel_rfl) rfl) _ _ hmax hbytes _ hseq
  have cS' := callsIn_wide.1 cS
  have e : (w.alloc (.cells #[.map (some b)] 48)).heap.size = w.heap.size + 1 := by simp
  rw [e] at cS'
  exact cS'
theorem rising_unique7 : ∀ (l k : List Int), l.Pairwise (· < ·) → k.Pairwise (· < ·) → (∀ x, x ∈ l ↔ x ∈ k) → l = k := fun l k h1 h2 h => Rising.uniq h1 h2 h
/-- The keys of the map that were added, as slices.Sorted tells them. -/
theorem sortedK_any (m : Nat) (V : Int → Option Value) (add : Adds) (w : World) (h : AdM w m V add) :
    Calls Tryz.prog 83 #[.func (.func 126) #[] #[.pointer (some ⟨w.heap.size, 0, none⟩)]] (w.alloc (.cells #[.map (some m)] 48)) fun e w' => ∃ A n c, e = .returned (.slice A n c) ∧ Hid (RdI w' A n (keysL add) ∧ n ≤ 1022 ∧ Below w.heap.size w w') := by
  obtain ⟨⟨D, hown, hca⟩, hv⟩ := h
  obtain ⟨hkn, hkm⟩ := keys_facts hown
  have hsz : Maps.size D ≤ 1022 := hown.size_le
  refine (sortedM_any m _ D w hown (by unfold maxLen; omega) (by omega)).mono ?_
  rintro e w' ⟨v, ss, rfl, hp, hrow, hnil, hb⟩
  have hl : (ss.mergeSort (fun x y => decide (x ≤ y))).length = ss.length := (List.mergeSort_perm ss _).length_eq
  have hks : ss.mergeSort (fun x y => decide (x ≤ y)) = keysL add := Rising.uniq (sorted_rising (hp.nodup_iff.2 hkn)) (keysL_rising add) fun x => by
    rw [mem_keysL (fun x => hv.range), (List.mergeSort_perm ss _).mem_iff, hp.mem_iff, hkm, hca.is, hv.some_]
  have hB : Below w.heap.size w w' := ((Below.refl _ w).alloc (Nat.le_refl _) _).trans (hb.mono (Nat.le_succ _))
  have hlen : (keysL add).length = ss.length := by rw [← hks, hl]
  have hle : ss.length ≤ 1022 := by rw [← hlen]; exact rising_le (keysL_rising add) fun x hx => hv.range ((mem_keysL (fun x => hv.range) x).1 hx)
  rw [hks] at hrow
  rcases hrow.2 with ⟨hv', hz⟩ | ⟨g, cap, cur, hv', hg, hh, h1, h2, h3, h4⟩
  · subst hv'
    exact ⟨none, 0, 0, rfl, kept ⟨⟨by rw [hlen, hz], fun h0 => absurd h0 (by omega)⟩, by omega, hB⟩⟩
  · subst hv'
    refine ⟨some ⟨g, 0, none⟩, ss.length, cap, rfl, kept ⟨⟨hlen, fun h0 => ⟨g, 0, rfl, fun j hj => ?_⟩⟩, hle, hB⟩⟩
    have := hrow.cells (g := g) rfl j (encZ (keysL add)[j]) (by simp)
    rw [add_at] at this
    exact this
end Go.Proofs.YtdjcahhofonclaaGreatDoor
end
