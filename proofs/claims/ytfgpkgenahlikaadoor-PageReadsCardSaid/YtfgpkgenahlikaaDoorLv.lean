/-
  The fact that every law of the layer begins with: the chapter's example.
-/
import Derived.Test.YtfgpkgenahlikaaDoorEn
import Derived.Test.YtfgpkgenahlikaaDoorReader2
namespace Go.Proofs.YtfgpkgenahlikaaDoor
open Go.ChangeShapes Go.WideShapes Go.ChangeAt Go.RowKit
set_option linter.unusedVariables false
set_option linter.unusedSimpArgs false

def exPg : Pg := ⟨1, 0, 0, [⟨[97], [120], 1, 0⟩], [], [], []⟩
theorem exPg_right : rightB exPg = true := by decide +kernel
theorem exPg_part : part (sealed (bodyOf exPg)) 19 5 = [1, 0, 1, 97, 120] := by decide +kernel
def exLay (w : World) : Lay := ⟨1, 0, 0, some ⟨w.heap.size + 1 + 1, 0, none⟩, 1, 1, none, 0, 0, none, 0, 0, none, 0, 0⟩
/-- The world in which the example has been laid. -/
def ExW (w : World) : World := ((w.alloc (.cells #[.int .u8 97] 5 (1, 2))).alloc (.cells #[.int .u8 120] 5 (1, 2))).alloc (.cells #[.slice (some ⟨w.heap.size, 0, none⟩) 1 1, .slice (some ⟨w.heap.size + 1, 0, none⟩) 1 1, .int .i64 1, .int .i64 0] 67)
theorem ex_below (w : World) : Below w.heap.size w (ExW w) := (((Below.refl _ _).alloc (Nat.le_refl _) _).alloc (by simp) _).alloc (by simp; omega) _
theorem ex_rd (w : World) : RdPg (ExW w) (exLay w) exPg := by
  have r1 : Rd (ExW w) (some ⟨w.heap.size, 0, none⟩) 1 [97] := ((Rd.marked w 5 [97] (1, 2)).alloc _).alloc _
  have r2 : Rd (ExW w) (some ⟨w.heap.size + 1, 0, none⟩) 1 [120] := by
    have := (Rd.marked (w.alloc (.cells #[.int .u8 97] 5 (1, 2))) 5 [120] (1, 2)).alloc (.cells #[.slice (some ⟨w.heap.size, 0, none⟩) 1 1, .slice (some ⟨w.heap.size + 1, 0, none⟩) 1 1, .int .i64 1, .int .i64 0] 67)
    rw [World.size_alloc] at this
    exact this
  have key : ∀ (i : Nat) (v : Value), #[Value.slice (some ⟨w.heap.size, 0, none⟩) 1 1, .slice (some ⟨w.heap.size + 1, 0, none⟩) 1 1, .int .i64 1, .int .i64 0][i]? = some v → (ExW w).cell? ⟨w.heap.size + 1 + 1, i, none⟩ = some v := fun i v hv => by
    have hs : ((w.alloc (.cells #[.int .u8 97] 5 (1, 2))).alloc (.cells #[.int .u8 120] 5 (1, 2))).heap.size = w.heap.size + 1 + 1 := by simp
    have := cell_of_row (ExW w) _ i _ _ _ (heap_alloc_new ((w.alloc (.cells #[.int .u8 97] 5 (1, 2))).alloc (.cells #[.int .u8 120] 5 (1, 2))) (.cells #[.slice (some ⟨w.heap.size, 0, none⟩) 1 1, .slice (some ⟨w.heap.size + 1, 0, none⟩) 1 1, .int .i64 1, .int .i64 0] 67))
    rw [hs] at this
    exact this.trans hv
  refine ⟨rfl, rfl, rfl, ⟨rfl, fun _ => ⟨_, _, rfl⟩, fun b o e k hk => ?_⟩, RdKids.nil_ _ _, Rd.nil_ _ _, RdNums.nil_ _ _, by decide, by decide, by simp [exLay], by simp [exLay], by simp [exLay], by simp [exLay]⟩
  simp only [exLay, Option.some.injEq, Addr.mk.injEq, and_true] at e
  obtain ⟨rfl, rfl⟩ := e
  have h0 : k = 0 := by simp [exPg] at hk; exact hk
  subst h0
  exact ⟨⟨some ⟨w.heap.size, 0, none⟩, 1, 1, some ⟨w.heap.size + 1, 0, none⟩, 1, 1, 1, 0⟩, ⟨r1, r2, rfl, rfl, by simp, by simp⟩, key 0 _ rfl, key 1 _ rfl, key 2 _ rfl, key 3 _ rfl⟩
theorem cut19 {w : World} {A : Option Addr} {c : Nat} {xs : List UInt8} (hr : Rd w A 256 xs) (hc : 256 ≤ c) :
    ∃ X, (if c = 19 then A else Option.map (fun x : Addr => (⟨x.block, x.off + 19, none⟩ : Addr)) A) = X ∧ Rd w X 5 (part xs 19 5) := ⟨_, rfl, hr.mid (pos := 19) (m := 5) (by omega) hc⟩
theorem ex_encode (w : World) (hf : Fours w) : Calls Tryd.prog 14 #[(exLay w).val] (ExW w) fun e w' => ∃ A c, e = .returned (.tuple #[.slice A 256 c, .int .i64 0]) ∧ 256 ≤ c ∧ Rd w' A 256 (sealed (bodyOf exPg)) ∧ Below w.heap.size w w' :=
  (encode_right (exLay w) exPg (ExW w) (ex_rd w) exPg_right (hf.below (ex_below w))).mono fun _ _ ⟨A, c, he, ho, hb⟩ => ⟨A, c, he, own_cap ho, Rd.of_own ho, below_to hb (ex_below w)⟩
set_option maxRecDepth 100000 in
theorem lives_any (w : World) (hf : Fours w) :
    Calls Tryd.prog 11 #[] w fun e w' => e = .returned (.bool true) ∧ Below w.heap.size w w' := by
  have kc := conv_lit w
  have kc1 : ∀ (o : Obj) (C : Array Value) (n c : Nat), (convert 25 25 (.slice (some ⟨w.heap.size + 1, 0, none⟩) n c)).run Tryd.prog ((w.alloc o).alloc (.cells C 5)) = .ok (.slice (some ⟨w.heap.size + 1, 0, none⟩) n c) ((w.alloc o).alloc (.cells C 5 (C.size, C.size + 1))) := fun o C n c => by have := conv_lit (w.alloc o) C n c; rwa [World.size_alloc] at this
  have HF := kept hf
  clear hf
  go_enter Tryd.func11, Tryd.ntmps11
  go_wp2_with fail
  refine (ex_encode w HF.out).mono ?_
  rintro e w1 ⟨A, c, rfl, hc, hr, hb⟩
  have HB := kept hb
  obtain ⟨X, hX, hx⟩ := cut19 hr hc
  rw [exPg_part] at hx
  have hst := hx.string (P := Tryd.prog) (c - 19) 25 5 9 Tryd.underlying25 Tryd.underlying5 Tryd.underlying9
  clear hb hr hx
  go_wp2
  go_ret
  exact ⟨ret_bool (by rw [strOf_toList]; rfl), HB.out⟩
end Go.Proofs.YtfgpkgenahlikaaDoor
