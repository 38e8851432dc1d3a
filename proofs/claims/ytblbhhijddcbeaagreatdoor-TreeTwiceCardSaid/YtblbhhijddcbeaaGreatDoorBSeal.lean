/- Seal -/
import Derived.Test.YtblbhhijddcbeaaGreatDoorBRows2
import Derived.Test.YtblbhhijddcbeaaGreatDoorBBase
import Derived.Lib.SlBytesConst
section
/-
 What sum.Seal, sum.Open, the document's own Seal and Open and the fact that every law of the layer begins with answer.
-/
namespace Go.Proofs.YtblbhhijddcbeaaGreatDoor
open Go.ChangeShapes Go.WideShapes Go.ChangeAt Go.RowKit Crc
set_option linter.unusedVariables false
theorem Fours.below {w w' : World} (h : Fours w) (hb : Below w.heap.size w w') : Fours w' := fun i hi =>
 (hb.cell (World.block_lt_of_cell? w _ (h i hi))).trans (h i hi)
theorem Fours.alloc {w : World} (h : Fours w) (o : Obj) : Fours (w.alloc o) := h.below ((Below.refl _ _).alloc (Nat.le_refl _) _)
structure Part where
 at_ : Option Addr
 room : Nat
 xs : List UInt8
def Part.val (p : Part) : Value := .slice p.at_ p.xs.length p.room
def Part.none : Part := ⟨.none, 0, []⟩
theorem rows_new (w : World) (t : TypeId) (f : Nat × Nat) (L : List Part) (h : ∀ p ∈ L, Rd w p.at_ p.xs.length p.xs ∧ p.xs.length ≤ p.room) :
 RdRows (w.alloc (.cells (L.map Part.val).toArray t f)) (some ⟨w.heap.size, 0, none⟩) L.length (fun i => (L.getD i .none).at_) (fun i => (L.getD i .none).room) (fun i => (L.getD i .none).xs) := by
 refine ⟨fun _ => ⟨_, rfl, fun i hi => ?_⟩, fun i hi => ?_, fun i hi => ?_⟩
 · have hadd : (⟨w.heap.size, 0, none⟩ : Addr).add i = ⟨w.heap.size, i, none⟩ := by unfold Addr.add; split <;> simp_all
   rw [hadd, cell_of_row _ w.heap.size i (L.map Part.val).toArray t f (heap_alloc_new w _)]; simp [hi, Part.val]
 · have := (h (L[i]) (List.getElem_mem hi)).1.alloc (.cells (L.map Part.val).toArray t f); simpa [hi] using this
 · have := (h (L[i]) (List.getElem_mem hi)).2; simpa [hi] using this
theorem reg_list (L : List Part) : reg (fun i => (L.getD i .none).xs) L.length = crc 4294967295 (L.map Part.xs).flatten := by
 have key : ∀ k, k ≤ L.length → reg (fun i => (L.getD i .none).xs) k = crc 4294967295 ((L.take k).map Part.xs).flatten := by
  intro k
  induction k with
  | zero => intro _; rfl
  | succ k ih =>
    intro hk; rw [reg, ih (by omega), List.take_succ_eq_append_getElem (by omega), List.map_append, List.flatten_append, crc_append]; simp [show k < L.length by omega]
 have := key L.length (Nat.le_refl _)
 rwa [List.take_length] at this
theorem sum_list (L : List Part) (t : TypeId) (f : Nat × Nat) (c : Nat) (w : World) (h : ∀ p ∈ L, Rd w p.at_ p.xs.length p.xs ∧ p.xs.length ≤ p.room) (hl : L.length ≤ 140737488355328) (hx : ∀ p ∈ L, p.xs.length ≤ 140737488355328) (hf : Fours w) :
 Calls Tryz.prog 173 #[.slice (some ⟨w.heap.size, 0, none⟩) L.length c] (w.alloc (.cells (L.map Part.val).toArray t f)) fun e w' => e = .returned (.int .u32 ((fin (crc 4294967295 (L.map Part.xs).flatten) : Nat) : Int)) ∧ w.alloc (.cells (L.map Part.val).toArray t f) = w' := by
 have := sum_any _ L.length c _ _ _ _ (rows_new w t f L h) hl (fun i hi => by have := hx (L[i]) (List.getElem_mem hi); simpa [hi] using this) (hf.alloc _); rw [reg_list] at this; exact this
theorem sum_one (A : Option Addr) (n c c' : Nat) (xs : List UInt8) (t : TypeId) (w : World) (h : Rd w A n xs) (hc : n ≤ c) (hl : n ≤ 140737488355328) (hf : Fours w) :
 Calls Tryz.prog 173 #[.slice (some ⟨w.heap.size, 0, none⟩) 1 c'] (w.alloc (.cells #[.slice A n c] t)) fun e w' => e = .returned (.int .u32 ((fin (crc 4294967295 xs) : Nat) : Int)) ∧ w.alloc (.cells #[.slice A n c] t) = w' := by
 obtain rfl := h.1; have := sum_list [⟨A, c, xs⟩] t (0, 0) c' w (by simpa using ⟨h, hc⟩) (by simp) (by simpa using hl) hf; simpa [Part.val] using this
theorem Rd.marked (W : World) (t : TypeId) (xs : List UInt8) (f : Nat × Nat) : Rd (W.alloc (.cells (cellsOf xs).toArray t f)) (some ⟨W.heap.size, 0, none⟩) xs.length xs := by
 refine ⟨rfl, fun _ => ⟨_, rfl, fun j hj => ?_⟩⟩; have hadd : (⟨W.heap.size, 0, none⟩ : Addr).add j = ⟨W.heap.size, j, none⟩ := by unfold Addr.add; split <;> simp_all
 rw [hadd, cell_of_row _ W.heap.size j (cellsOf xs).toArray t f (heap_alloc_new W _)]; simpa using cellsOf_get xs j hj
def csum (xs : List UInt8) : Nat := fin (crc 4294967295 xs)
theorem csum_lt (xs : List UInt8) : csum xs < 4294967296 := fin_lt _ (crc_lt _ (by omega))
def sealed (xs : List UInt8) : List UInt8 := be (csum xs) 4 ++ xs
theorem sealed_length (xs : List UInt8) : (sealed xs).length = 4 + xs.length := by simp [sealed, be_length]
theorem put_four (m : Nat) (w : World) (hm : m < 4294967296) :
 Calls Tryz.prog 171 #[.int .u64 (m : Int), .int .i64 4] w fun e w' => ∃ A c, e = .returned (.tuple #[.slice A 4 c, .int .i64 0]) ∧ w'.ownsRow w.heap.size 5 1 (.slice A 4 c) 4 (cellsOf (be m 4)) ∧ Below w.heap.size w w' :=
 put_ok m 4 w (by omega) (by omega) (by omega)
theorem sum_one' (A : Option Addr) (n c c' : Nat) (xs : List UInt8) (t : TypeId) (w : World) (h : Rd w A n xs) (hc : n ≤ c) (hl : n ≤ 140737488355328) (hf : Fours w) :
 Calls Tryz.prog 173 #[.slice (some ⟨w.heap.size, 0, none⟩) 1 c'] (w.alloc (.cells #[.slice A n c] t)) fun e w' => e = .returned (.int .u32 ((csum xs : Nat) : Int)) ∧ w.alloc (.cells #[.slice A n c] t) = w' := sum_one A n c c' xs t w h hc hl hf
theorem seal_any (A : Option Addr) (n c : Nat) (xs : List UInt8) (w : World) (h : Rd w A n xs) (hc : n ≤ c) (hl : n ≤ 140737488351232) (hf : Fours w) :
 Calls Tryz.prog 124 #[.slice A n c] w fun e w' => ∃ A' c', e = .returned (.slice A' (4 + n) c') ∧ w'.ownsRow w.heap.size 5 1 (.slice A' (4 + n) c') (4 + n) (cellsOf (sealed xs)) ∧ Below w.heap.size w w' := by
 have HS := fun t => kept (sum_one' A n c 1 xs t w h hc (by omega) hf)
 have hm := csum_lt xs; have HD : Hid (sealed xs = be (csum xs) 4 ++ xs) := rfl; generalize csum xs = m at HS hm HD; have HP := fun w => kept (put_four m w hm)
 have HR := kept h; clear h hf; go_enter Tryz.func124, Tryz.ntmps124; go_wp2_with fail
 with_reducible refine (HS _).out.mono ?_
 rintro e w1 ⟨rfl, rfl⟩; go_wp2_with fail
 with_reducible refine (HP _).out.mono ?_
 rintro e w2 ⟨A2, c2, rfl, hown, hb⟩; have HB := kept (((Below.refl w.heap.size w).alloc (Nat.le_refl _) _).trans (hb.mono (by simp))); have HO := kept (own_mono hown (by simp) : w2.ownsRow w.heap.size 5 1 (.slice A2 4 c2) 4 (cellsOf (be m 4))); clear hown hb; go_wp2_with (first | (at_builtin; refine wpList_append_rd rfl _ _ 46 rfl w.heap.size 5 rfl rfl Tryz.underlying46 u8info HO.out (HR.out.below HB.out) (by omega) HB.out.size ?_; intro A3 c3 w3 hown3 hb3; have HO3 := kept hown3; have HB3 := kept (HB.out.trans hb3); clear hown3 hb3))
 go_ret; refine ⟨A3, c3, rfl, ?_, HB3.out⟩; rw [HD.out]; exact HO3.out
theorem get_four (A : Option Addr) (n c : Nat) (xs : List UInt8) (w : World) (hr : Rd w A n xs) (hl : n ≤ 140737488355328) (h : 4 ≤ n) :
 Calls Tryz.prog 227 #[.slice A n c, .int .i64 0, .int .i64 4] w fun e w' => e = .returned (.tuple #[.int .u64 ((num (xs.take 4) 0 : Nat) : Int), .int .i64 0]) ∧ w = w' :=
 get_ok A n c 0 4 xs w (by omega) (by omega) hr hl (by omega)
theorem num4_lt (xs : List UInt8) : num (xs.take 4) 0 < 4294967296 := by
 have h := num_lt (xs.take 4) 0; have hl : (xs.take 4).length ≤ 4 := by simp; omega
 have := Nat.pow_le_pow_right (n := 256) (by omega) hl; omega
theorem cut4 {w : World} {A : Option Addr} {n c : Nat} {xs : List UInt8} (hr : Rd w A n xs) (hc : n ≤ c) (h4 : 4 ≤ n) :
 ∃ X, (if c = 4 then A else Option.map (fun x : Addr => (⟨x.block, x.off + 4, none⟩ : Addr)) A) = X ∧ Rd w X (n - 4) (xs.drop 4) := ⟨_, rfl, hr.cut h4 hc⟩
theorem open_wrong (A : Option Addr) (n c : Nat) (xs : List UInt8) (w : World) (hr : Rd w A n xs) (hc : n ≤ c) (hl : n ≤ 140737488351232) (h4 : 4 ≤ n) (hf : Fours w) (hw : num (xs.take 4) 0 ≠ csum (xs.drop 4)) :
 Calls Tryz.prog 182 #[.slice A n c] w fun e w' => e = .returned (.tuple #[.slice none 0 0, .int .i64 6]) ∧ Below w.heap.size w w' := by
 have HG := kept (get_four A n c xs w hr (by omega) h4); have hp := num4_lt xs; have hne : (((num (xs.take 4) 0 : Nat) : Int) != ((csum (xs.drop 4) : Nat) : Int)) = true := by simp; omega
 have hq := csum_lt (xs.drop 4); obtain ⟨X, hX, hd⟩ := cut4 hr hc h4; have HS := fun t => kept (sum_one' X (n - 4) (c - 4) 1 (xs.drop 4) t w hd (by omega) (by omega) hf)
 generalize num (xs.take 4) 0 = p at HG hp hne; generalize csum (xs.drop 4) = q at HS hq hne; clear hw hf hd hr; go_enter Tryz.func182, Tryz.ntmps182; go_wp2_with fail
 with_reducible refine HG.out.mono ?_
 rintro e w1 ⟨rfl, rfl⟩; go_wp2_with fail
 with_reducible refine (HS _).out.mono ?_
 rintro e w2 ⟨rfl, rfl⟩; go_wp2; go_ret2; exact ⟨rfl, (Below.refl _ _).alloc (Nat.le_refl _) _⟩
theorem open_right (A : Option Addr) (n c : Nat) (xs : List UInt8) (w : World) (hr : Rd w A n xs) (hc : n ≤ c) (hl : n ≤ 140737488351232) (h4 : 4 ≤ n) (hf : Fours w) (hw : num (xs.take 4) 0 = csum (xs.drop 4)) :
 Calls Tryz.prog 182 #[.slice A n c] w fun e w' => ∃ A' c', e = .returned (.tuple #[.slice A' (n - 4) c', .int .i64 0]) ∧ w'.ownsRow w.heap.size 5 1 (.slice A' (n - 4) c') (n - 4) (cellsOf (xs.drop 4)) ∧ Below w.heap.size w w' := by
 have HG := kept (get_four A n c xs w hr (by omega) h4); have hp := num4_lt xs; rw [hw] at HG hp; obtain ⟨X, hX, hd⟩ := cut4 hr hc h4; have HS := fun t => kept (sum_one' X (n - 4) (c - 4) 1 (xs.drop 4) t w hd (by omega) (by omega) hf)
 have HC := fun o => kept (clone_any X (n - 4) (c - 4) (xs.drop 4) (w.alloc o) (hd.alloc o) (by omega))
 generalize csum (xs.drop 4) = q at HS HG hp; clear hw hf hd hr; go_enter Tryz.func182, Tryz.ntmps182; go_wp2_with fail
 with_reducible refine HG.out.mono ?_
 rintro e w1 ⟨rfl, rfl⟩; go_wp2_with fail
 with_reducible refine (HS _).out.mono ?_
 rintro e w2 ⟨rfl, rfl⟩; go_wp2_with fail
 with_reducible refine (HC _).out.mono ?_
 rintro e w3 ⟨A3, c3, rfl, hown, hb⟩; have HO := kept hown; have HB := kept hb; clear hown hb; go_wp2; go_ret2; exact ⟨A3, c3, rfl, own_mono HO.out (by simp), ((Below.refl _ _).alloc (Nat.le_refl _) _).trans (HB.out.mono (by simp))⟩
theorem sealed_take (xs : List UInt8) : (sealed xs).take 4 = be (csum xs) 4 := by
 unfold sealed; rw [List.take_append_of_le_length (by rw [be_length]; omega), List.take_of_length_le (by rw [be_length]; omega)]
theorem sealed_drop (xs : List UInt8) : (sealed xs).drop 4 = xs := by
 unfold sealed; rw [List.drop_append_of_le_length (by rw [be_length]; omega), List.drop_of_length_le (by rw [be_length]; omega), List.nil_append]
theorem sealed_num (xs : List UInt8) : num ((sealed xs).take 4) 0 = csum xs := by
 rw [sealed_take, num_be _ 4 (csum_lt xs)]
theorem sealed_iff (xs : List UInt8) (h : 4 ≤ xs.length) : sealed (xs.drop 4) = xs ↔ num (xs.take 4) 0 = csum (xs.drop 4) := by
 constructor
 · intro e; have := sealed_num (xs.drop 4)
   rwa [e] at this
 · intro e; have hl : (xs.take 4).length = 4 := by simp; omega
   unfold sealed; rw [← e, show be (num (xs.take 4) 0) 4 = xs.take 4 by have := be_num (xs.take 4) 0; rwa [hl] at this]; exact List.take_append_drop 4 xs
end Go.Proofs.YtblbhhijddcbeaaGreatDoor
end
