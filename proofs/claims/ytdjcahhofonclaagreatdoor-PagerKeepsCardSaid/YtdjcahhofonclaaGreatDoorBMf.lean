/-
  Texts laid together: Mf.
-/
import Derived.Test.YtdjcahhofonclaaGreatDoorBCt
import Derived.Test.YtdjcahhofonclaaGreatDoorBHnd
import Derived.Deep.DeepCutAuto
import Derived.Deep.CutBlock
section
/-
  meta.Encode of a right meta and of another one.
-/
namespace Go.Proofs.YtdjcahhofonclaaGreatDoor
open Go.ChangeShapes Go.WideShapes Go.ChangeAt Go.RowKit
set_option linter.unusedVariables false
set_option linter.unusedSimpArgs false

abbrev litT : Array Value := #[.int .u8 84, .int .u8 69, .int .u8 82, .int .u8 82, .int .u8 1]
/-- The run-time's mark behind a literal's row of five bytes. -/
def mark5 (W : World) (g : Nat) : World := W.freeze ⟨g, 5, none⟩ 1
theorem mark5_size (W : World) (g : Nat) : (mark5 W g).heap.size = W.heap.size := by simp [mark5, World.freeze]
theorem mark5_cell (W : World) (g : Nat) (p : Addr) : (mark5 W g).cell? p = W.cell? p := by
  unfold mark5 World.freeze
  simp only [Nat.one_ne_zero, if_false]
  unfold World.cell?
  simp only [Array.getElem?_modify]
  by_cases h : g = p.block
  · subst h
    rw [if_pos rfl]
    cases W.heap[p.block]? with
    | none => rfl
    | some o => cases o <;> rfl
  · rw [if_neg h]
theorem mark5_keeps (W : World) (g : Nat) : Keeps W (mark5 W g) := ⟨Nat.le_of_eq (mark5_size W g).symm, fun p _ => mark5_cell W g p⟩
theorem mark5_below {B : Nat} (W : World) (g : Nat) (h : B ≤ g) : Below B W (mark5 W g) :=
  ⟨rfl, rfl, rfl, Nat.le_of_eq (mark5_size W g).symm, fun k hk => by
    show ((mark5 W g).heap)[k]? = W.heap[k]?
    unfold mark5 World.freeze
    simp only [Nat.one_ne_zero, if_false, Array.getElem?_modify]
    rw [if_neg (by omega)]⟩
theorem conv_at (W : World) (g : Nat) (h : W.heap[g]? = some (.cells litT 5 (0, 0))) :
    (convert 62 62 (.slice (some ⟨g, 0, none⟩) 5 5)).run Tryz.prog W = .ok (.slice (some ⟨g, 0, none⟩) 5 5) (mark5 W g) := by
  have hsh : W.shape? g = some (5, 5) := by
    unfold World.shape?
    rw [h]
    rfl
  simp [convert, run_underlying (P := Tryz.prog) Tryz.underlying62, run_underlying (P := Tryz.prog) Tryz.underlying5, markStringish, hsh, mark5]
theorem lit_first {X w' : World} (h : Below (X.alloc (.cells litT 5)).heap.size (X.alloc (.cells litT 5)) w') : w'.heap[X.heap.size]? = some (.cells litT 5 (0, 0)) :=
  (h.block _ (by simp)).trans (heap_alloc_new X _)
theorem lit_first' {X w' : World} (h : Below (X.alloc (.cells litT 5)).drew.heap.size (X.alloc (.cells litT 5)).drew w') : w'.heap[X.heap.size]? = some (.cells litT 5 (0, 0)) :=
  (h.block _ (by show _ < (X.alloc _).heap.size; simp)).trans (heap_alloc_new X _)
theorem lit_next {W w' : World} {g : Nat} (hl : W.heap[g]? = some (.cells litT 5 (0, 0))) (h : Below W.heap.size W w') : w'.heap[g]? = some (.cells litT 5 (0, 0)) :=
  (h.block _ (Array.getElem?_eq_some_iff.1 hl).1).trans hl
theorem lit_rd (X : World) : Rd (X.alloc (.cells litT 5)) (some ⟨X.heap.size, 0, none⟩) 5 [84, 69, 82, 82, 1] := Rd.marked X 5 [84, 69, 82, 82, 1] (0, 0)

section
variable {P : Program} {ops : Array Oper} {Q : Exit → Act → World → Prop} {md : Region.Mode} {S : World → Prop}
/-- Two may come up next, both wanted. -/
theorem hand_ready2 {fuel : Nat} {listed : Array Bool} {a : Act} {w : World} (i j : Nat) (hr : Region.ready md ops listed = [i, j]) (hwi : (ops[i]?).map (fun o => Region.wanted o (yielded ops a.tmps)) = some true) (hwj : (ops[j]?).map (fun o => Region.wanted o (yielded ops a.tmps)) = some true)
    (hi : ∀ o, ops[i]? = some o → ∀ K' : Act → World → Prop, Shut (∀ a w, S w → (S w → wpAnyH P md ops Q S fuel (listed.setIfInBounds i true) a w) → K' a w) → Oper.wp P o a w K' Q)
    (hj : ∀ o, ops[j]? = some o → ∀ K' : Act → World → Prop, Shut (∀ a w, S w → (S w → wpAnyH P md ops Q S fuel (listed.setIfInBounds j true) a w) → K' a w) → Oper.wp P o a w K' Q) : wpAnyH P md ops Q S (fuel + 1) listed a w := by
  refine wpAnyH_ready (rs := [i, j]) hr (by simp) ?_
  cases hoi : ops[i]? with
  | none => rw [hoi] at hwi; cases hwi
  | some o =>
    cases hoj : ops[j]? with
    | none => rw [hoj] at hwj; cases hwj
    | some o' =>
      rw [hoi] at hwi
      rw [hoj] at hwj
      refine AllReadyH.cons hoi (fun K' hK => ?_) (AllReadyH.cons hoj (fun K' hK => ?_) AllReadyH.nil)
      · rw [if_pos (Option.some.inj hwi)]
        exact hi o hoi K' hK
      · rw [if_pos (Option.some.inj hwj)]
        exact hj o' hoj K' hK
end
theorem name_world {K : Act → World → Prop} {a : Act} {w : World} (h : ∀ W, W = w → K a W) : K a w := h w rfl
theorem lit_heap {X W : World} (h : W = X.alloc (.cells litT 5)) : W.heap[X.heap.size]? = some (.cells litT 5 (0, 0)) := by rw [h]; exact heap_alloc_new X _
/-- What has come since a: R holds, and holds on. -/
def Acc (a W : World) (R : World → Prop) : Prop := Keeps a W ∧ Below a.heap.size a W ∧ ∀ X, Keeps W X → R X
theorem Acc.start (a : World) : Acc a a.drew (fun _ => True) := ⟨Keeps.drew _, (Below.refl _ _).drew, fun _ _ => trivial⟩
theorem Acc.rd {a W W' : World} {R : World → Prop} {A : Option Addr} {n c : Nat} {xs : List UInt8} (h : Acc a W R) (hb : Below W.heap.size W W') (hr : Rd W' A n xs) (hc : n ≤ c) : Acc a W' (fun X => R X ∧ Rd X A n xs ∧ n ≤ c) :=
  ⟨h.1.trans (Keeps.of_below hb), h.2.1.trans (hb.mono h.1.1), fun X hX => ⟨h.2.2 X ((Keeps.of_below hb).trans hX), hr.keeps hX, hc⟩⟩
theorem Acc.lit {a W W' : World} {R : World → Prop} (h : Acc a W R) (e : W' = W.alloc (.cells litT 5)) : Acc a W' (fun X => R X ∧ Rd X (some ⟨W.heap.size, 0, none⟩) 5 [84, 69, 82, 82, 1]) := by
  subst e
  exact ⟨h.1.trans (Keeps.alloc _ _), h.2.1.alloc h.1.1 _, fun X hX => ⟨h.2.2 X ((Keeps.alloc _ _).trans hX), (lit_rd W).keeps hX⟩⟩
theorem Acc.mark {a W W' : World} {R : World → Prop} {g : Nat} (h : Acc a W R) (hg : a.heap.size ≤ g) (e : W' = mark5 W g) : Acc a W' R := by
  subst e
  exact ⟨h.1.trans (mark5_keeps _ _), h.2.1.trans (mark5_below _ _ hg), fun X hX => h.2.2 X ((mark5_keeps _ _).trans hX)⟩
theorem Acc.fin {a W W' : World} {R : World → Prop} {o : Obj} (h : Acc a W R) (hb : Below (W.alloc o).heap.size (W.alloc o) W') : Keeps a W' ∧ Below a.heap.size a W' :=
  ⟨h.1.trans ((Keeps.alloc _ _).trans (Keeps.of_below hb)), (h.2.1.alloc h.1.1 o).trans (hb.mono (by have := h.1.1; simp; omega))⟩
theorem part_rd {w : World} {A : Option Addr} {n c : Nat} {xs : List UInt8} (h : Rd w A n xs) (hc : n ≤ c) : Rd w (Part.mk A c xs).at_ (Part.mk A c xs).xs.length (Part.mk A c xs).xs ∧ (Part.mk A c xs).xs.length ≤ (Part.mk A c xs).room := ⟨by have := h; rwa [← h.1] at this, by simpa [h.1] using hc⟩
theorem concat_head (t r s z : Nat) (A1 A2 A3 A4 A5 A6 : Option Addr) (c1 c2 c3 c4 c5 c6 : Nat) (ty : TypeId) (w : World) (h1 : Rd w A1 1 [9]) (h2 : Rd w A2 8 (be t 8)) (h3 : Rd w A3 5 [84, 69, 82, 82, 1]) (h4 : Rd w A4 4 (be r 4)) (h5 : Rd w A5 4 (be s 4)) (h6 : Rd w A6 4 (be z 4))
    (g1 : 1 ≤ c1) (g2 : 8 ≤ c2) (g3 : 5 ≤ c3) (g4 : 4 ≤ c4) (g5 : 4 ≤ c5) (g6 : 4 ≤ c6) :
    Calls Tryz.prog 122 #[.slice (some ⟨w.heap.size, 0, none⟩) 6 6] (w.alloc (.cells #[.slice A1 1 c1, .slice A2 8 c2, .slice A3 5 c3, .slice A4 4 c4, .slice A5 4 c5, .slice A6 4 c6] ty)) fun e w' => ∃ A' c', e = .returned (.slice A' 26 c') ∧ w'.ownsRow (w.heap.size + 1) 5 1 (.slice A' 26 c') 26 (cellsOf (headM t r s z)) ∧ Below (w.alloc (.cells #[.slice A1 1 c1, .slice A2 8 c2, .slice A3 5 c3, .slice A4 4 c4, .slice A5 4 c5, .slice A6 4 c6] ty)).heap.size (w.alloc (.cells #[.slice A1 1 c1, .slice A2 8 c2, .slice A3 5 c3, .slice A4 4 c4, .slice A5 4 c5, .slice A6 4 c6] ty)) w' := by
  have := concat_list [⟨A1, c1, [9]⟩, ⟨A2, c2, be t 8⟩, ⟨A3, c3, [84, 69, 82, 82, 1]⟩, ⟨A4, c4, be r 4⟩, ⟨A5, c5, be s 4⟩, ⟨A6, c6, be z 4⟩] ty (0, 0) 6 26 w (by
    intro p hp
    simp only [List.mem_cons, List.not_mem_nil, or_false] at hp
    rcases hp with rfl | rfl | rfl | rfl | rfl | rfl
    · exact part_rd h1 g1
    · exact part_rd h2 g2
    · exact part_rd h3 g3
    · exact part_rd h4 g4
    · exact part_rd h5 g5
    · exact part_rd h6 g6) (by simp) (headM t r s z) (by simp [headM, List.append_assoc]) (headM_length _ _ _ _) (by omega)
  simpa [Part.val, be_length] using this
theorem concat_body (t r s z : Nat) (A1 A2 A3 : Option Addr) (c1 c2 c3 : Nat) (ty : TypeId) (w : World) (h1 : Rd w A1 26 (headM t r s z)) (h2 : Rd w A2 218 (List.replicate 218 0)) (h3 : Rd w A3 8 (be t 8)) (g1 : 26 ≤ c1) (g2 : 218 ≤ c2) (g3 : 8 ≤ c3) :
    Calls Tryz.prog 122 #[.slice (some ⟨w.heap.size, 0, none⟩) 3 3] (w.alloc (.cells #[.slice A1 26 c1, .slice A2 218 c2, .slice A3 8 c3] ty)) fun e w' => ∃ A' c', e = .returned (.slice A' 252 c') ∧ w'.ownsRow (w.heap.size + 1) 5 1 (.slice A' 252 c') 252 (cellsOf (bodyN t r s z)) ∧ Below (w.alloc (.cells #[.slice A1 26 c1, .slice A2 218 c2, .slice A3 8 c3] ty)).heap.size (w.alloc (.cells #[.slice A1 26 c1, .slice A2 218 c2, .slice A3 8 c3] ty)) w' := by
  have h2l : (List.replicate 218 (0 : UInt8)).length = 218 := h2.1
  have := concat_list [⟨A1, c1, headM t r s z⟩, ⟨A2, c2, List.replicate 218 0⟩, ⟨A3, c3, be t 8⟩] ty (0, 0) 3 252 w (by
    intro p hp
    simp only [List.mem_cons, List.not_mem_nil, or_false] at hp
    rcases hp with rfl | rfl | rfl
    · exact part_rd h1 g1
    · exact part_rd h2 g2
    · exact part_rd h3 g3) (by simp) (bodyN t r s z) (by unfold bodyN; generalize List.replicate 218 (0 : UInt8) = Z; simp) (bodyN_length _ _ _ _) (by omega)
  generalize List.replicate 218 (0 : UInt8) = Z at this h2l
  simpa [Part.val, be_length, headM_length, h2l] using this

theorem seal_252 (A : Option Addr) (c : Nat) (xs : List UInt8) (w : World) (h : Rd w A 252 xs) (hc : 252 ≤ c) (hf : Fours w) :
    Calls Tryz.prog 100 #[.slice A 252 c] w fun e w' => ∃ A' c', e = .returned (.slice A' 256 c') ∧ w'.ownsRow w.heap.size 5 1 (.slice A' 256 c') 256 (cellsOf (sealed xs)) ∧ Below w.heap.size w w' := seal_any A 252 c xs w h hc (by omega) hf
theorem encode_m_wrong (m : Mt) (w : World) (hR : rightM m = false) :
    Calls Tryz.prog 82 #[m.val] w fun e w' => e = .returned (.tuple #[.slice none 0 0, .int .i64 4]) ∧ Below w.heap.size w w' := by
  have HR := fun w => kept (right_m m w)
  rw [hR] at HR
  clear hR
  obtain ⟨t, r, s, z⟩ := m
  have hb0 : Below w.heap.size w (w.alloc (.cells #[.int .u64 (t : Int), .int .i64 r, .int .i64 s, .int .i64 z] 87)) := (Below.refl _ _).alloc (Nat.le_refl _) _
  go_enter Tryz.func82, Tryz.ntmps82
  go_wp2_with (first | (go_at_call 120; (with_reducible refine ((HR _).out).mono ?_); rintro e w1 ⟨rfl, hb1⟩; have HB1 := kept (bel_to hb1 hb0); clear hb1))
  go_ret2
  exact ⟨rfl, HB1.out⟩
set_option maxRecDepth 100000 in
set_option maxHeartbeats 4000000 in
theorem encode_nat (t r s z : Nat) (w : World) (ht : t < 18446744073709551616) (hr : r ≤ 1024) (hs : s ≤ 1024) (hz : z ≤ 1024) (hR : rightM ⟨t, r, s, z⟩ = true) (hF : Fours w) :
    Calls Tryz.prog 82 #[.agg #[.int .u64 (t : Int), .int .i64 (r : Int), .int .i64 (s : Int), .int .i64 (z : Int)]] w fun e w' => ∃ A c, e = .returned (.tuple #[.slice A 256 c, .int .i64 0]) ∧ w'.ownsRow w.heap.size 5 1 (.slice A 256 c) 256 (cellsOf (sealed (bodyN t r s z))) ∧ Below w.heap.size w w' := by
  have HR := fun w => kept (right_m ⟨t, r, s, z⟩ w)
  rw [hR] at HR
  have HN1 := fun w => kept (number1 w)
  have HN8 := fun w => kept (number8 t w ht)
  have HIr := fun w => kept (id_any r w hr)
  have HIs := fun w => kept (id_any s w hs)
  have HIz := fun w => kept (id_any z w hz)
  have HFO := kept hF
  clear hR ht hr hs hz hF
  have hb0 : Below w.heap.size w (w.alloc (.cells #[.int .u64 (t : Int), .int .i64 (r : Int), .int .i64 (s : Int), .int .i64 (z : Int)] 87)) := (Below.refl _ _).alloc (Nat.le_refl _) _
  have HF0 := kept (fou_new w 87 t r s z)
  go_enter Tryz.func82, Tryz.ntmps82
  go_wp2_with fail
  with_reducible refine (HR _).out.mono ?_
  rintro e w1 ⟨rfl, hb1⟩
  have HF1 := kept (HF0.out.keeps (Keeps.of_below hb1))
  obtain ⟨n0, n1, n2, n3⟩ := HF1.out
  have HB1 := kept (bel_to hb1 hb0)
  clear hb1
  go_wp2_with fail
  with_reducible refine (HN8 _).out.mono ?_
  rintro e w2 ⟨A4, c4, rfl, hown, hb2⟩
  have HF2 := kept (HF1.out.keeps (Keeps.of_below hb2))
  have HO4 := kept (Rd.of_own hown)
  have HC4 := kept (own_cap hown)
  have HB2 := kept (bel_to hb2 HB1.out)
  clear hown hb2 n0 n1 n2 n3
  go_upto_region 4 with fail
  go_cut [5] (fun s5 wx => ∃ A c, s5 = .slice A 26 c ∧ Hid (wx.ownsRow w2.heap.size 5 1 (.slice A 26 c) 26 (cellsOf (headM t r s z))) ∧ Hid (Keeps w2 wx ∧ Below w2.heap.size w2 wx))
  case first =>
    refine wp_region_held_drew (S := fun W' => Fou W' w.heap.size (t : Int) (r : Int) (s : Int) (z : Int)) (by kernel_rfl) ?_ (fun hHeld => ?_)
    · (try dsimp only); exact HF2.out.keeps (Keeps.drew _)
    refine hand_take 1 (some 14) ?_ (by kernel_rfl) (by kernel_rfl) (by kernel_rfl) (by kernel_rfl) (by kernel_rfl) (fun _ _ _ h => h) ?_ (by assumption) ?_
    rotate_left
    · (intro o ho w hSw; (simp only [List.getElem?_toArray, List.getElem?_cons_succ, List.getElem?_cons_zero, Option.some.injEq] at ho); subst ho; (try dsimp only at hSw); go_simp; (first | done | with_reducible rfl))
    (try simp only [Act.put, List.setIfInBounds_toArray, List.set_cons_zero, List.set_cons_succ])
    refine hand_take 4 (some 17) ?_ (by kernel_rfl) (by kernel_rfl) (by kernel_rfl) (by kernel_rfl) (by kernel_rfl) (fun _ _ _ h => h) ?_ (by assumption) ?_
    rotate_left
    · (intro o ho w hSw; (simp only [List.getElem?_toArray, List.getElem?_cons_succ, List.getElem?_cons_zero, Option.some.injEq] at ho); subst ho; (try dsimp only at hSw); go_simp; (first | done | with_reducible rfl))
    (try simp only [Act.put, List.setIfInBounds_toArray, List.set_cons_zero, List.set_cons_succ])
    refine hand_take 5 (some 18) ?_ (by kernel_rfl) (by kernel_rfl) (by kernel_rfl) (by kernel_rfl) (by kernel_rfl) (fun _ _ _ h => h) ?_ (by assumption) ?_
    rotate_left
    · (intro o ho w hSw; (simp only [List.getElem?_toArray, List.getElem?_cons_succ, List.getElem?_cons_zero, Option.some.injEq] at ho); subst ho; (try dsimp only at hSw); go_simp; (first | done | with_reducible rfl))
    (try simp only [Act.put, List.setIfInBounds_toArray, List.set_cons_zero, List.set_cons_succ])
    refine hand_take 7 (some 20) ?_ (by kernel_rfl) (by kernel_rfl) (by kernel_rfl) (by kernel_rfl) (by kernel_rfl) (fun _ _ _ h => h) ?_ (by assumption) ?_
    rotate_left
    · (intro o ho w hSw; (simp only [List.getElem?_toArray, List.getElem?_cons_succ, List.getElem?_cons_zero, Option.some.injEq] at ho); subst ho; (try dsimp only at hSw); go_simp; (first | done | with_reducible rfl))
    (try simp only [Act.put, List.setIfInBounds_toArray, List.set_cons_zero, List.set_cons_succ])
    refine hand_take 8 (some 21) ?_ (by kernel_rfl) (by kernel_rfl) (by kernel_rfl) (by kernel_rfl) (by kernel_rfl) (fun _ _ _ h => h) ?_ (by assumption) ?_
    rotate_left
    · (intro o ho w hSw; (simp only [List.getElem?_toArray, List.getElem?_cons_succ, List.getElem?_cons_zero, Option.some.injEq] at ho); subst ho; (try dsimp only at hSw); go_simp; (first | done | with_reducible rfl))
    (try simp only [Act.put, List.setIfInBounds_toArray, List.set_cons_zero, List.set_cons_succ])
    refine hand_take 10 (some 23) ?_ (by kernel_rfl) (by kernel_rfl) (by kernel_rfl) (by kernel_rfl) (by kernel_rfl) (fun _ _ _ h => h) ?_ (by assumption) ?_
    rotate_left
    · (intro o ho w hSw; (simp only [List.getElem?_toArray, List.getElem?_cons_succ, List.getElem?_cons_zero, Option.some.injEq] at ho); subst ho; (try dsimp only at hSw); go_simp; (first | done | with_reducible rfl))
    (try simp only [Act.put, List.setIfInBounds_toArray, List.set_cons_zero, List.set_cons_succ])
    refine hand_take 11 (some 24) ?_ (by kernel_rfl) (by kernel_rfl) (by kernel_rfl) (by kernel_rfl) (by kernel_rfl) (fun _ _ _ h => h) ?_ (by assumption) ?_
    rotate_left
    · (intro o ho w hSw; (simp only [List.getElem?_toArray, List.getElem?_cons_succ, List.getElem?_cons_zero, Option.some.injEq] at ho); subst ho; (try dsimp only at hSw); go_simp; (first | done | with_reducible rfl))
    (try simp only [Act.put, List.setIfInBounds_toArray, List.set_cons_zero, List.set_cons_succ])
    have HA0 := kept (Acc.start w2)
    refine hand_ready2 0 2 (by kernel_rfl) (by kernel_rfl) (by kernel_rfl) (fun o ho K hK => ?_) (fun o ho K hK => ?_)
    · skip
      (simp only [List.getElem?_toArray, List.getElem?_cons_succ, List.getElem?_cons_zero, Option.some.injEq] at ho)
      subst ho
      go_simp
      go_at_call 121
      with_reducible refine (HN1 _).out.mono ?_
      rintro e W1 ⟨A1, c1, rfl, hown, hb⟩
      have HA1 := kept (HA0.out.rd hb (Rd.of_own hown) (own_cap hown))
      clear hown hb
      (try go_wp2_with fail)
      refine hK.out _ _ (HF2.out.keeps HA1.out.1) (fun hHeld => ?_)
      clear hK K
      (try simp only [Act.put, List.setIfInBounds_toArray, List.set_cons_zero, List.set_cons_succ])
      refine hand_ready2 2 6 (by kernel_rfl) (by kernel_rfl) (by kernel_rfl) (fun o ho K hK => ?_) (fun o ho K hK => ?_)
      · skip
        (simp only [List.getElem?_toArray, List.getElem?_cons_succ, List.getElem?_cons_zero, Option.some.injEq] at ho)
        subst ho
        go_simp
        refine name_world (fun W2 hW => ?_)
        have HA2 := kept (HA1.out.lit hW)
        have HL2 : Hid (W2.heap[W1.heap.size]? = some (.cells litT 5 (0, 0))) := kept (lit_heap (X := W1) hW)
        have HG := kept (HA1.out.1.1)
        clear hW
        refine hK.out _ _ (HF2.out.keeps HA2.out.1) (fun hHeld => ?_)
        clear hK K
        (try simp only [Act.put, List.setIfInBounds_toArray, List.set_cons_zero, List.set_cons_succ])
        refine hand_ready2 3 6 (by kernel_rfl) (by kernel_rfl) (by kernel_rfl) (fun o ho K hK => ?_) (fun o ho K hK => ?_)
        · skip
          have kc := conv_at W2 (W1.heap.size) HL2.out
          (simp only [List.getElem?_toArray, List.getElem?_cons_succ, List.getElem?_cons_zero, Option.some.injEq] at ho)
          subst ho
          go_simp
          refine name_world (fun W3 hW => ?_)
          have HA3 := kept (HA2.out.mark HG.out hW)
          clear hW kc
          refine hK.out _ _ (HF2.out.keeps HA3.out.1) (fun hHeld => ?_)
          clear hK K
          (try simp only [Act.put, List.setIfInBounds_toArray, List.set_cons_zero, List.set_cons_succ])
          refine hand_ready 6 (by kernel_rfl) (by kernel_rfl) (fun o ho K hK => ?_)
          (simp only [List.getElem?_toArray, List.getElem?_cons_succ, List.getElem?_cons_zero, Option.some.injEq] at ho)
          subst ho
          go_simp
          go_at_call 123
          with_reducible refine (HIr _).out.mono ?_
          rintro e W4 ⟨Ar, cr, rfl, hown, hb⟩
          have HA4 := kept (HA3.out.rd hb (Rd.of_own hown) (own_cap hown))
          clear hown hb
          (try go_wp2_with fail)
          refine hK.out _ _ (HF2.out.keeps HA4.out.1) (fun hHeld => ?_)
          clear hK K
          (try simp only [Act.put, List.setIfInBounds_toArray, List.set_cons_zero, List.set_cons_succ])
          refine hand_ready 9 (by kernel_rfl) (by kernel_rfl) (fun o ho K hK => ?_)
          (simp only [List.getElem?_toArray, List.getElem?_cons_succ, List.getElem?_cons_zero, Option.some.injEq] at ho)
          subst ho
          go_simp
          go_at_call 123
          with_reducible refine (HIs _).out.mono ?_
          rintro e W5 ⟨As, cs, rfl, hown, hb⟩
          have HA5 := kept (HA4.out.rd hb (Rd.of_own hown) (own_cap hown))
          clear hown hb
          (try go_wp2_with fail)
          refine hK.out _ _ (HF2.out.keeps HA5.out.1) (fun hHeld => ?_)
          clear hK K
          (try simp only [Act.put, List.setIfInBounds_toArray, List.set_cons_zero, List.set_cons_succ])
          refine hand_ready 12 (by kernel_rfl) (by kernel_rfl) (fun o ho K hK => ?_)
          (simp only [List.getElem?_toArray, List.getElem?_cons_succ, List.getElem?_cons_zero, Option.some.injEq] at ho)
          subst ho
          go_simp
          go_at_call 123
          with_reducible refine (HIz _).out.mono ?_
          rintro e W6 ⟨Az, cz, rfl, hown, hb⟩
          have HA6 := kept (HA5.out.rd hb (Rd.of_own hown) (own_cap hown))
          clear hown hb
          (try go_wp2_with fail)
          refine hK.out _ _ (HF2.out.keeps HA6.out.1) (fun hHeld => ?_)
          clear hK K
          (try simp only [Act.put, List.setIfInBounds_toArray, List.set_cons_zero, List.set_cons_succ])
          obtain ⟨⟨⟨⟨⟨-, R1, G1⟩, RL⟩, Rr, Gr⟩, Rs, Gs⟩, Rz, Gz⟩ := HA6.out.2.2 _ (Keeps.refl _)
          have RL : Rd W6 (some ⟨W1.heap.size, 0, none⟩) 5 [84, 69, 82, 82, 1] := RL
          have R4 := HO4.out.keeps HA6.out.1
          refine hand_ready 13 (by kernel_rfl) (by kernel_rfl) (fun o ho K hK => ?_)
          (simp only [List.getElem?_toArray, List.getElem?_cons_succ, List.getElem?_cons_zero, Option.some.injEq] at ho)
          subst ho
          go_simp
          refine hK.out _ _ (HF2.out.keeps (HA6.out.1.trans (Keeps.alloc _ _))) (fun hHeld => ?_)
          clear hK K
          (try simp only [Act.put, List.setIfInBounds_toArray, List.set_cons_zero, List.set_cons_succ])
          refine hand_ready 14 (by kernel_rfl) (by kernel_rfl) (fun o ho K hK => ?_)
          (simp only [List.getElem?_toArray, List.getElem?_cons_succ, List.getElem?_cons_zero, Option.some.injEq] at ho)
          subst ho
          go_simp
          go_at_call 122
          with_reducible refine (concat_head t r s z _ _ _ _ _ _ _ _ _ _ _ _ _ _ R1 R4 RL Rr Rs Rz G1 HC4.out (Nat.le_refl 5) Gr Gs Gz).mono ?_
          rintro e w9 ⟨A9, c9, rfl, hown, hb⟩
          have HE := kept (HA6.out.fin hb)
          have HM : Hid (w9.ownsRow w2.heap.size 5 1 (.slice A9 26 c9) 26 (cellsOf (headM t r s z))) := kept (own_mono hown (Nat.le_succ_of_le HA6.out.1.1))
          clear hown hb
          (try go_wp2_with fail)
          refine hK.out _ _ (HF2.out.keeps HE.out.1) (fun hHeld => ?_)
          clear hK K
          (try simp only [Act.put, List.setIfInBounds_toArray, List.set_cons_zero, List.set_cons_succ])
          refine hand_take 15 (some 5) ?_ (by kernel_rfl) (by kernel_rfl) (by kernel_rfl) (by kernel_rfl) (by kernel_rfl) (fun _ _ _ h => h) ?_ (by assumption) ?_
          rotate_left
          · intro o ho w hSw; (simp only [List.getElem?_toArray, List.getElem?_cons_succ, List.getElem?_cons_zero, Option.some.injEq] at ho); subst ho; go_simp; (first | done | with_reducible rfl)
          (try simp only [Act.put, List.setIfInBounds_toArray, List.set_cons_zero, List.set_cons_succ])
          refine wpAnyH_done (by kernel_rfl) ?_ _
          go_wp2_with fail
          go_meet
          exact ⟨_, _, rfl, HM, HE⟩
        · skip
          (simp only [List.getElem?_toArray, List.getElem?_cons_succ, List.getElem?_cons_zero, Option.some.injEq] at ho)
          subst ho
          go_simp
          go_at_call 123
          with_reducible refine (HIr _).out.mono ?_
          rintro e W7 ⟨Ar, cr, rfl, hown, hb⟩
          have HA7 := kept (HA2.out.rd hb (Rd.of_own hown) (own_cap hown))
          have HL7 := kept (lit_next HL2.out hb)
          clear hown hb
          (try go_wp2_with fail)
          refine hK.out _ _ (HF2.out.keeps HA7.out.1) (fun hHeld => ?_)
          clear hK K
          (try simp only [Act.put, List.setIfInBounds_toArray, List.set_cons_zero, List.set_cons_succ])
          refine hand_ready2 3 9 (by kernel_rfl) (by kernel_rfl) (by kernel_rfl) (fun o ho K hK => ?_) (fun o ho K hK => ?_)
          · skip
            have kc := conv_at W7 (W1.heap.size) HL7.out
            (simp only [List.getElem?_toArray, List.getElem?_cons_succ, List.getElem?_cons_zero, Option.some.injEq] at ho)
            subst ho
            go_simp
            refine name_world (fun W8 hW => ?_)
            have HA8 := kept (HA7.out.mark HG.out hW)
            clear hW kc
            refine hK.out _ _ (HF2.out.keeps HA8.out.1) (fun hHeld => ?_)
            clear hK K
            (try simp only [Act.put, List.setIfInBounds_toArray, List.set_cons_zero, List.set_cons_succ])
            refine hand_ready 9 (by kernel_rfl) (by kernel_rfl) (fun o ho K hK => ?_)
            (simp only [List.getElem?_toArray, List.getElem?_cons_succ, List.getElem?_cons_zero, Option.some.injEq] at ho)
            subst ho
            go_simp
            go_at_call 123
            with_reducible refine (HIs _).out.mono ?_
            rintro e W9 ⟨As, cs, rfl, hown, hb⟩
            have HA9 := kept (HA8.out.rd hb (Rd.of_own hown) (own_cap hown))
            clear hown hb
            (try go_wp2_with fail)
            refine hK.out _ _ (HF2.out.keeps HA9.out.1) (fun hHeld => ?_)
            clear hK K
            (try simp only [Act.put, List.setIfInBounds_toArray, List.set_cons_zero, List.set_cons_succ])
            refine hand_ready 12 (by kernel_rfl) (by kernel_rfl) (fun o ho K hK => ?_)
            (simp only [List.getElem?_toArray, List.getElem?_cons_succ, List.getElem?_cons_zero, Option.some.injEq] at ho)
            subst ho
            go_simp
            go_at_call 123
            with_reducible refine (HIz _).out.mono ?_
            rintro e W10 ⟨Az, cz, rfl, hown, hb⟩
            have HA10 := kept (HA9.out.rd hb (Rd.of_own hown) (own_cap hown))
            clear hown hb
            (try go_wp2_with fail)
            refine hK.out _ _ (HF2.out.keeps HA10.out.1) (fun hHeld => ?_)
            clear hK K
            (try simp only [Act.put, List.setIfInBounds_toArray, List.set_cons_zero, List.set_cons_succ])
            obtain ⟨⟨⟨⟨⟨-, R1, G1⟩, RL⟩, Rr, Gr⟩, Rs, Gs⟩, Rz, Gz⟩ := HA10.out.2.2 _ (Keeps.refl _)
            have RL : Rd W10 (some ⟨W1.heap.size, 0, none⟩) 5 [84, 69, 82, 82, 1] := RL
            have R4 := HO4.out.keeps HA10.out.1
            refine hand_ready 13 (by kernel_rfl) (by kernel_rfl) (fun o ho K hK => ?_)
            (simp only [List.getElem?_toArray, List.getElem?_cons_succ, List.getElem?_cons_zero, Option.some.injEq] at ho)
            subst ho
            go_simp
            refine hK.out _ _ (HF2.out.keeps (HA10.out.1.trans (Keeps.alloc _ _))) (fun hHeld => ?_)
            clear hK K
            (try simp only [Act.put, List.setIfInBounds_toArray, List.set_cons_zero, List.set_cons_succ])
            refine hand_ready 14 (by kernel_rfl) (by kernel_rfl) (fun o ho K hK => ?_)
            (simp only [List.getElem?_toArray, List.getElem?_cons_succ, List.getElem?_cons_zero, Option.some.injEq] at ho)
            subst ho
            go_simp
            go_at_call 122
            with_reducible refine (concat_head t r s z _ _ _ _ _ _ _ _ _ _ _ _ _ _ R1 R4 RL Rr Rs Rz G1 HC4.out (Nat.le_refl 5) Gr Gs Gz).mono ?_
            rintro e w9 ⟨A9, c9, rfl, hown, hb⟩
            have HE := kept (HA10.out.fin hb)
            have HM : Hid (w9.ownsRow w2.heap.size 5 1 (.slice A9 26 c9) 26 (cellsOf (headM t r s z))) := kept (own_mono hown (Nat.le_succ_of_le HA10.out.1.1))
            clear hown hb
            (try go_wp2_with fail)
            refine hK.out _ _ (HF2.out.keeps HE.out.1) (fun hHeld => ?_)
            clear hK K
            (try simp only [Act.put, List.setIfInBounds_toArray, List.set_cons_zero, List.set_cons_succ])
            refine hand_take 15 (some 5) ?_ (by kernel_rfl) (by kernel_rfl) (by kernel_rfl) (by kernel_rfl) (by kernel_rfl) (fun _ _ _ h => h) ?_ (by assumption) ?_
            rotate_left
            · intro o ho w hSw; (simp only [List.getElem?_toArray, List.getElem?_cons_succ, List.getElem?_cons_zero, Option.some.injEq] at ho); subst ho; go_simp; (first | done | with_reducible rfl)
            (try simp only [Act.put, List.setIfInBounds_toArray, List.set_cons_zero, List.set_cons_succ])
            refine wpAnyH_done (by kernel_rfl) ?_ _
            go_wp2_with fail
            go_meet
            exact ⟨_, _, rfl, HM, HE⟩
          · skip
            (simp only [List.getElem?_toArray, List.getElem?_cons_succ, List.getElem?_cons_zero, Option.some.injEq] at ho)
            subst ho
            go_simp
            go_at_call 123
            with_reducible refine (HIs _).out.mono ?_
            rintro e W11 ⟨As, cs, rfl, hown, hb⟩
            have HA11 := kept (HA7.out.rd hb (Rd.of_own hown) (own_cap hown))
            have HL11 := kept (lit_next HL7.out hb)
            clear hown hb
            (try go_wp2_with fail)
            refine hK.out _ _ (HF2.out.keeps HA11.out.1) (fun hHeld => ?_)
            clear hK K
            (try simp only [Act.put, List.setIfInBounds_toArray, List.set_cons_zero, List.set_cons_succ])
            refine hand_ready2 3 12 (by kernel_rfl) (by kernel_rfl) (by kernel_rfl) (fun o ho K hK => ?_) (fun o ho K hK => ?_)
            · skip
              have kc := conv_at W11 (W1.heap.size) HL11.out
              (simp only [List.getElem?_toArray, List.getElem?_cons_succ, List.getElem?_cons_zero, Option.some.injEq] at ho)
              subst ho
              go_simp
              refine name_world (fun W12 hW => ?_)
              have HA12 := kept (HA11.out.mark HG.out hW)
              clear hW kc
              refine hK.out _ _ (HF2.out.keeps HA12.out.1) (fun hHeld => ?_)
              clear hK K
              (try simp only [Act.put, List.setIfInBounds_toArray, List.set_cons_zero, List.set_cons_succ])
              refine hand_ready 12 (by kernel_rfl) (by kernel_rfl) (fun o ho K hK => ?_)
              (simp only [List.getElem?_toArray, List.getElem?_cons_succ, List.getElem?_cons_zero, Option.some.injEq] at ho)
              subst ho
              go_simp
              go_at_call 123
              with_reducible refine (HIz _).out.mono ?_
              rintro e W13 ⟨Az, cz, rfl, hown, hb⟩
              have HA13 := kept (HA12.out.rd hb (Rd.of_own hown) (own_cap hown))
              clear hown hb
              (try go_wp2_with fail)
              refine hK.out _ _ (HF2.out.keeps HA13.out.1) (fun hHeld => ?_)
              clear hK K
              (try simp only [Act.put, List.setIfInBounds_toArray, List.set_cons_zero, List.set_cons_succ])
              obtain ⟨⟨⟨⟨⟨-, R1, G1⟩, RL⟩, Rr, Gr⟩, Rs, Gs⟩, Rz, Gz⟩ := HA13.out.2.2 _ (Keeps.refl _)
              have RL : Rd W13 (some ⟨W1.heap.size, 0, none⟩) 5 [84, 69, 82, 82, 1] := RL
              have R4 := HO4.out.keeps HA13.out.1
              refine hand_ready 13 (by kernel_rfl) (by kernel_rfl) (fun o ho K hK => ?_)
              (simp only [List.getElem?_toArray, List.getElem?_cons_succ, List.getElem?_cons_zero, Option.some.injEq] at ho)
              subst ho
              go_simp
              refine hK.out _ _ (HF2.out.keeps (HA13.out.1.trans (Keeps.alloc _ _))) (fun hHeld => ?_)
              clear hK K
              (try simp only [Act.put, List.setIfInBounds_toArray, List.set_cons_zero, List.set_cons_succ])
              refine hand_ready 14 (by kernel_rfl) (by kernel_rfl) (fun o ho K hK => ?_)
              (simp only [List.getElem?_toArray, List.getElem?_cons_succ, List.getElem?_cons_zero, Option.some.injEq] at ho)
              subst ho
              go_simp
              go_at_call 122
              with_reducible refine (concat_head t r s z _ _ _ _ _ _ _ _ _ _ _ _ _ _ R1 R4 RL Rr Rs Rz G1 HC4.out (Nat.le_refl 5) Gr Gs Gz).mono ?_
              rintro e w9 ⟨A9, c9, rfl, hown, hb⟩
              have HE := kept (HA13.out.fin hb)
              have HM : Hid (w9.ownsRow w2.heap.size 5 1 (.slice A9 26 c9) 26 (cellsOf (headM t r s z))) := kept (own_mono hown (Nat.le_succ_of_le HA13.out.1.1))
              clear hown hb
              (try go_wp2_with fail)
              refine hK.out _ _ (HF2.out.keeps HE.out.1) (fun hHeld => ?_)
              clear hK K
              (try simp only [Act.put, List.setIfInBounds_toArray, List.set_cons_zero, List.set_cons_succ])
              refine hand_take 15 (some 5) ?_ (by kernel_rfl) (by kernel_rfl) (by kernel_rfl) (by kernel_rfl) (by kernel_rfl) (fun _ _ _ h => h) ?_ (by assumption) ?_
              rotate_left
              · intro o ho w hSw; (simp only [List.getElem?_toArray, List.getElem?_cons_succ, List.getElem?_cons_zero, Option.some.injEq] at ho); subst ho; go_simp; (first | done | with_reducible rfl)
              (try simp only [Act.put, List.setIfInBounds_toArray, List.set_cons_zero, List.set_cons_succ])
              refine wpAnyH_done (by kernel_rfl) ?_ _
              go_wp2_with fail
              go_meet
              exact ⟨_, _, rfl, HM, HE⟩
            · skip
              (simp only [List.getElem?_toArray, List.getElem?_cons_succ, List.getElem?_cons_zero, Option.some.injEq] at ho)
              subst ho
              go_simp
              go_at_call 123
              with_reducible refine (HIz _).out.mono ?_
              rintro e W14 ⟨Az, cz, rfl, hown, hb⟩
              have HA14 := kept (HA11.out.rd hb (Rd.of_own hown) (own_cap hown))
              have HL14 := kept (lit_next HL11.out hb)
              clear hown hb
              (try go_wp2_with fail)
              refine hK.out _ _ (HF2.out.keeps HA14.out.1) (fun hHeld => ?_)
              clear hK K
              (try simp only [Act.put, List.setIfInBounds_toArray, List.set_cons_zero, List.set_cons_succ])
              refine hand_ready 3 (by kernel_rfl) (by kernel_rfl) (fun o ho K hK => ?_)
              have kc := conv_at W14 (W1.heap.size) HL14.out
              (simp only [List.getElem?_toArray, List.getElem?_cons_succ, List.getElem?_cons_zero, Option.some.injEq] at ho)
              subst ho
              go_simp
              refine name_world (fun W15 hW => ?_)
              have HA15 := kept (HA14.out.mark HG.out hW)
              clear hW kc
              refine hK.out _ _ (HF2.out.keeps HA15.out.1) (fun hHeld => ?_)
              clear hK K
              (try simp only [Act.put, List.setIfInBounds_toArray, List.set_cons_zero, List.set_cons_succ])
              obtain ⟨⟨⟨⟨⟨-, R1, G1⟩, RL⟩, Rr, Gr⟩, Rs, Gs⟩, Rz, Gz⟩ := HA15.out.2.2 _ (Keeps.refl _)
              have RL : Rd W15 (some ⟨W1.heap.size, 0, none⟩) 5 [84, 69, 82, 82, 1] := RL
              have R4 := HO4.out.keeps HA15.out.1
              refine hand_ready 13 (by kernel_rfl) (by kernel_rfl) (fun o ho K hK => ?_)
              (simp only [List.getElem?_toArray, List.getElem?_cons_succ, List.getElem?_cons_zero, Option.some.injEq] at ho)
              subst ho
              go_simp
              refine hK.out _ _ (HF2.out.keeps (HA15.out.1.trans (Keeps.alloc _ _))) (fun hHeld => ?_)
              clear hK K
              (try simp only [Act.put, List.setIfInBounds_toArray, List.set_cons_zero, List.set_cons_succ])
              refine hand_ready 14 (by kernel_rfl) (by kernel_rfl) (fun o ho K hK => ?_)
              (simp only [List.getElem?_toArray, List.getElem?_cons_succ, List.getElem?_cons_zero, Option.some.injEq] at ho)
              subst ho
              go_simp
              go_at_call 122
              with_reducible refine (concat_head t r s z _ _ _ _ _ _ _ _ _ _ _ _ _ _ R1 R4 RL Rr Rs Rz G1 HC4.out (Nat.le_refl 5) Gr Gs Gz).mono ?_
              rintro e w9 ⟨A9, c9, rfl, hown, hb⟩
              have HE := kept (HA15.out.fin hb)
              have HM : Hid (w9.ownsRow w2.heap.size 5 1 (.slice A9 26 c9) 26 (cellsOf (headM t r s z))) := kept (own_mono hown (Nat.le_succ_of_le HA15.out.1.1))
              clear hown hb
              (try go_wp2_with fail)
              refine hK.out _ _ (HF2.out.keeps HE.out.1) (fun hHeld => ?_)
              clear hK K
              (try simp only [Act.put, List.setIfInBounds_toArray, List.set_cons_zero, List.set_cons_succ])
              refine hand_take 15 (some 5) ?_ (by kernel_rfl) (by kernel_rfl) (by kernel_rfl) (by kernel_rfl) (by kernel_rfl) (fun _ _ _ h => h) ?_ (by assumption) ?_
              rotate_left
              · intro o ho w hSw; (simp only [List.getElem?_toArray, List.getElem?_cons_succ, List.getElem?_cons_zero, Option.some.injEq] at ho); subst ho; go_simp; (first | done | with_reducible rfl)
              (try simp only [Act.put, List.setIfInBounds_toArray, List.set_cons_zero, List.set_cons_succ])
              refine wpAnyH_done (by kernel_rfl) ?_ _
              go_wp2_with fail
              go_meet
              exact ⟨_, _, rfl, HM, HE⟩
      · skip
        (simp only [List.getElem?_toArray, List.getElem?_cons_succ, List.getElem?_cons_zero, Option.some.injEq] at ho)
        subst ho
        go_simp
        go_at_call 123
        with_reducible refine (HIr _).out.mono ?_
        rintro e W16 ⟨Ar, cr, rfl, hown, hb⟩
        have HA16 := kept (HA1.out.rd hb (Rd.of_own hown) (own_cap hown))
        clear hown hb
        (try go_wp2_with fail)
        refine hK.out _ _ (HF2.out.keeps HA16.out.1) (fun hHeld => ?_)
        clear hK K
        (try simp only [Act.put, List.setIfInBounds_toArray, List.set_cons_zero, List.set_cons_succ])
        refine hand_ready2 2 9 (by kernel_rfl) (by kernel_rfl) (by kernel_rfl) (fun o ho K hK => ?_) (fun o ho K hK => ?_)
        · skip
          (simp only [List.getElem?_toArray, List.getElem?_cons_succ, List.getElem?_cons_zero, Option.some.injEq] at ho)
          subst ho
          go_simp
          refine name_world (fun W17 hW => ?_)
          have HA17 := kept (HA16.out.lit hW)
          have HL17 : Hid (W17.heap[W16.heap.size]? = some (.cells litT 5 (0, 0))) := kept (lit_heap (X := W16) hW)
          have HG := kept (HA16.out.1.1)
          clear hW
          refine hK.out _ _ (HF2.out.keeps HA17.out.1) (fun hHeld => ?_)
          clear hK K
          (try simp only [Act.put, List.setIfInBounds_toArray, List.set_cons_zero, List.set_cons_succ])
          refine hand_ready2 3 9 (by kernel_rfl) (by kernel_rfl) (by kernel_rfl) (fun o ho K hK => ?_) (fun o ho K hK => ?_)
          · skip
            have kc := conv_at W17 (W16.heap.size) HL17.out
            (simp only [List.getElem?_toArray, List.getElem?_cons_succ, List.getElem?_cons_zero, Option.some.injEq] at ho)
            subst ho
            go_simp
            refine name_world (fun W18 hW => ?_)
            have HA18 := kept (HA17.out.mark HG.out hW)
            clear hW kc
            refine hK.out _ _ (HF2.out.keeps HA18.out.1) (fun hHeld => ?_)
            clear hK K
            (try simp only [Act.put, List.setIfInBounds_toArray, List.set_cons_zero, List.set_cons_succ])
            refine hand_ready 9 (by kernel_rfl) (by kernel_rfl) (fun o ho K hK => ?_)
            (simp only [List.getElem?_toArray, List.getElem?_cons_succ, List.getElem?_cons_zero, Option.some.injEq] at ho)
            subst ho
            go_simp
            go_at_call 123
            with_reducible refine (HIs _).out.mono ?_
            rintro e W19 ⟨As, cs, rfl, hown, hb⟩
            have HA19 := kept (HA18.out.rd hb (Rd.of_own hown) (own_cap hown))
            clear hown hb
            (try go_wp2_with fail)
            refine hK.out _ _ (HF2.out.keeps HA19.out.1) (fun hHeld => ?_)
            clear hK K
            (try simp only [Act.put, List.setIfInBounds_toArray, List.set_cons_zero, List.set_cons_succ])
            refine hand_ready 12 (by kernel_rfl) (by kernel_rfl) (fun o ho K hK => ?_)
            (simp only [List.getElem?_toArray, List.getElem?_cons_succ, List.getElem?_cons_zero, Option.some.injEq] at ho)
            subst ho
            go_simp
            go_at_call 123
            with_reducible refine (HIz _).out.mono ?_
            rintro e W20 ⟨Az, cz, rfl, hown, hb⟩
            have HA20 := kept (HA19.out.rd hb (Rd.of_own hown) (own_cap hown))
            clear hown hb
            (try go_wp2_with fail)
            refine hK.out _ _ (HF2.out.keeps HA20.out.1) (fun hHeld => ?_)
            clear hK K
            (try simp only [Act.put, List.setIfInBounds_toArray, List.set_cons_zero, List.set_cons_succ])
            obtain ⟨⟨⟨⟨⟨-, R1, G1⟩, Rr, Gr⟩, RL⟩, Rs, Gs⟩, Rz, Gz⟩ := HA20.out.2.2 _ (Keeps.refl _)
            have RL : Rd W20 (some ⟨W16.heap.size, 0, none⟩) 5 [84, 69, 82, 82, 1] := RL
            have R4 := HO4.out.keeps HA20.out.1
            refine hand_ready 13 (by kernel_rfl) (by kernel_rfl) (fun o ho K hK => ?_)
            (simp only [List.getElem?_toArray, List.getElem?_cons_succ, List.getElem?_cons_zero, Option.some.injEq] at ho)
            subst ho
            go_simp
            refine hK.out _ _ (HF2.out.keeps (HA20.out.1.trans (Keeps.alloc _ _))) (fun hHeld => ?_)
            clear hK K
            (try simp only [Act.put, List.setIfInBounds_toArray, List.set_cons_zero, List.set_cons_succ])
            refine hand_ready 14 (by kernel_rfl) (by kernel_rfl) (fun o ho K hK => ?_)
            (simp only [List.getElem?_toArray, List.getElem?_cons_succ, List.getElem?_cons_zero, Option.some.injEq] at ho)
            subst ho
            go_simp
            go_at_call 122
            with_reducible refine (concat_head t r s z _ _ _ _ _ _ _ _ _ _ _ _ _ _ R1 R4 RL Rr Rs Rz G1 HC4.out (Nat.le_refl 5) Gr Gs Gz).mono ?_
            rintro e w9 ⟨A9, c9, rfl, hown, hb⟩
            have HE := kept (HA20.out.fin hb)
            have HM : Hid (w9.ownsRow w2.heap.size 5 1 (.slice A9 26 c9) 26 (cellsOf (headM t r s z))) := kept (own_mono hown (Nat.le_succ_of_le HA20.out.1.1))
            clear hown hb
            (try go_wp2_with fail)
            refine hK.out _ _ (HF2.out.keeps HE.out.1) (fun hHeld => ?_)
            clear hK K
            (try simp only [Act.put, List.setIfInBounds_toArray, List.set_cons_zero, List.set_cons_succ])
            refine hand_take 15 (some 5) ?_ (by kernel_rfl) (by kernel_rfl) (by kernel_rfl) (by kernel_rfl) (by kernel_rfl) (fun _ _ _ h => h) ?_ (by assumption) ?_
            rotate_left
            · intro o ho w hSw; (simp only [List.getElem?_toArray, List.getElem?_cons_succ, List.getElem?_cons_zero, Option.some.injEq] at ho); subst ho; go_simp; (first | done | with_reducible rfl)
            (try simp only [Act.put, List.setIfInBounds_toArray, List.set_cons_zero, List.set_cons_succ])
            refine wpAnyH_done (by kernel_rfl) ?_ _
            go_wp2_with fail
            go_meet
            exact ⟨_, _, rfl, HM, HE⟩
          · skip
            (simp only [List.getElem?_toArray, List.getElem?_cons_succ, List.getElem?_cons_zero, Option.some.injEq] at ho)
            subst ho
            go_simp
            go_at_call 123
            with_reducible refine (HIs _).out.mono ?_
            rintro e W21 ⟨As, cs, rfl, hown, hb⟩
            have HA21 := kept (HA17.out.rd hb (Rd.of_own hown) (own_cap hown))
            have HL21 := kept (lit_next HL17.out hb)
            clear hown hb
            (try go_wp2_with fail)
            refine hK.out _ _ (HF2.out.keeps HA21.out.1) (fun hHeld => ?_)
            clear hK K
            (try simp only [Act.put, List.setIfInBounds_toArray, List.set_cons_zero, List.set_cons_succ])
            refine hand_ready2 3 12 (by kernel_rfl) (by kernel_rfl) (by kernel_rfl) (fun o ho K hK => ?_) (fun o ho K hK => ?_)
            · skip
              have kc := conv_at W21 (W16.heap.size) HL21.out
              (simp only [List.getElem?_toArray, List.getElem?_cons_succ, List.getElem?_cons_zero, Option.some.injEq] at ho)
              subst ho
              go_simp
              refine name_world (fun W22 hW => ?_)
              have HA22 := kept (HA21.out.mark HG.out hW)
              clear hW kc
              refine hK.out _ _ (HF2.out.keeps HA22.out.1) (fun hHeld => ?_)
              clear hK K
              (try simp only [Act.put, List.setIfInBounds_toArray, List.set_cons_zero, List.set_cons_succ])
              refine hand_ready 12 (by kernel_rfl) (by kernel_rfl) (fun o ho K hK => ?_)
              (simp only [List.getElem?_toArray, List.getElem?_cons_succ, List.getElem?_cons_zero, Option.some.injEq] at ho)
              subst ho
              go_simp
              go_at_call 123
              with_reducible refine (HIz _).out.mono ?_
              rintro e W23 ⟨Az, cz, rfl, hown, hb⟩
              have HA23 := kept (HA22.out.rd hb (Rd.of_own hown) (own_cap hown))
              clear hown hb
              (try go_wp2_with fail)
              refine hK.out _ _ (HF2.out.keeps HA23.out.1) (fun hHeld => ?_)
              clear hK K
              (try simp only [Act.put, List.setIfInBounds_toArray, List.set_cons_zero, List.set_cons_succ])
              obtain ⟨⟨⟨⟨⟨-, R1, G1⟩, Rr, Gr⟩, RL⟩, Rs, Gs⟩, Rz, Gz⟩ := HA23.out.2.2 _ (Keeps.refl _)
              have RL : Rd W23 (some ⟨W16.heap.size, 0, none⟩) 5 [84, 69, 82, 82, 1] := RL
              have R4 := HO4.out.keeps HA23.out.1
              refine hand_ready 13 (by kernel_rfl) (by kernel_rfl) (fun o ho K hK => ?_)
              (simp only [List.getElem?_toArray, List.getElem?_cons_succ, List.getElem?_cons_zero, Option.some.injEq] at ho)
              subst ho
              go_simp
              refine hK.out _ _ (HF2.out.keeps (HA23.out.1.trans (Keeps.alloc _ _))) (fun hHeld => ?_)
              clear hK K
              (try simp only [Act.put, List.setIfInBounds_toArray, List.set_cons_zero, List.set_cons_succ])
              refine hand_ready 14 (by kernel_rfl) (by kernel_rfl) (fun o ho K hK => ?_)
              (simp only [List.getElem?_toArray, List.getElem?_cons_succ, List.getElem?_cons_zero, Option.some.injEq] at ho)
              subst ho
              go_simp
              go_at_call 122
              with_reducible refine (concat_head t r s z _ _ _ _ _ _ _ _ _ _ _ _ _ _ R1 R4 RL Rr Rs Rz G1 HC4.out (Nat.le_refl 5) Gr Gs Gz).mono ?_
              rintro e w9 ⟨A9, c9, rfl, hown, hb⟩
              have HE := kept (HA23.out.fin hb)
              have HM : Hid (w9.ownsRow w2.heap.size 5 1 (.slice A9 26 c9) 26 (cellsOf (headM t r s z))) := kept (own_mono hown (Nat.le_succ_of_le HA23.out.1.1))
              clear hown hb
              (try go_wp2_with fail)
              refine hK.out _ _ (HF2.out.keeps HE.out.1) (fun hHeld => ?_)
              clear hK K
              (try simp only [Act.put, List.setIfInBounds_toArray, List.set_cons_zero, List.set_cons_succ])
              refine hand_take 15 (some 5) ?_ (by kernel_rfl) (by kernel_rfl) (by kernel_rfl) (by kernel_rfl) (by kernel_rfl) (fun _ _ _ h => h) ?_ (by assumption) ?_
              rotate_left
              · intro o ho w hSw; (simp only [List.getElem?_toArray, List.getElem?_cons_succ, List.getElem?_cons_zero, Option.some.injEq] at ho); subst ho; go_simp; (first | done | with_reducible rfl)
              (try simp only [Act.put, List.setIfInBounds_toArray, List.set_cons_zero, List.set_cons_succ])
              refine wpAnyH_done (by kernel_rfl) ?_ _
              go_wp2_with fail
              go_meet
              exact ⟨_, _, rfl, HM, HE⟩
            · skip
              (simp only [List.getElem?_toArray, List.getElem?_cons_succ, List.getElem?_cons_zero, Option.some.injEq] at ho)
              subst ho
              go_simp
              go_at_call 123
              with_reducible refine (HIz _).out.mono ?_
              rintro e W24 ⟨Az, cz, rfl, hown, hb⟩
              have HA24 := kept (HA21.out.rd hb (Rd.of_own hown) (own_cap hown))
              have HL24 := kept (lit_next HL21.out hb)
              clear hown hb
              (try go_wp2_with fail)
              refine hK.out _ _ (HF2.out.keeps HA24.out.1) (fun hHeld => ?_)
              clear hK K
              (try simp only [Act.put, List.setIfInBounds_toArray, List.set_cons_zero, List.set_cons_succ])
              refine hand_ready 3 (by kernel_rfl) (by kernel_rfl) (fun o ho K hK => ?_)
              have kc := conv_at W24 (W16.heap.size) HL24.out
              (simp only [List.getElem?_toArray, List.getElem?_cons_succ, List.getElem?_cons_zero, Option.some.injEq] at ho)
              subst ho
              go_simp
              refine name_world (fun W25 hW => ?_)
              have HA25 := kept (HA24.out.mark HG.out hW)
              clear hW kc
              refine hK.out _ _ (HF2.out.keeps HA25.out.1) (fun hHeld => ?_)
              clear hK K
              (try simp only [Act.put, List.setIfInBounds_toArray, List.set_cons_zero, List.set_cons_succ])
              obtain ⟨⟨⟨⟨⟨-, R1, G1⟩, Rr, Gr⟩, RL⟩, Rs, Gs⟩, Rz, Gz⟩ := HA25.out.2.2 _ (Keeps.refl _)
              have RL : Rd W25 (some ⟨W16.heap.size, 0, none⟩) 5 [84, 69, 82, 82, 1] := RL
              have R4 := HO4.out.keeps HA25.out.1
              refine hand_ready 13 (by kernel_rfl) (by kernel_rfl) (fun o ho K hK => ?_)
              (simp only [List.getElem?_toArray, List.getElem?_cons_succ, List.getElem?_cons_zero, Option.some.injEq] at ho)
              subst ho
              go_simp
              refine hK.out _ _ (HF2.out.keeps (HA25.out.1.trans (Keeps.alloc _ _))) (fun hHeld => ?_)
              clear hK K
              (try simp only [Act.put, List.setIfInBounds_toArray, List.set_cons_zero, List.set_cons_succ])
              refine hand_ready 14 (by kernel_rfl) (by kernel_rfl) (fun o ho K hK => ?_)
              (simp only [List.getElem?_toArray, List.getElem?_cons_succ, List.getElem?_cons_zero, Option.some.injEq] at ho)
              subst ho
              go_simp
              go_at_call 122
              with_reducible refine (concat_head t r s z _ _ _ _ _ _ _ _ _ _ _ _ _ _ R1 R4 RL Rr Rs Rz G1 HC4.out (Nat.le_refl 5) Gr Gs Gz).mono ?_
              rintro e w9 ⟨A9, c9, rfl, hown, hb⟩
              have HE := kept (HA25.out.fin hb)
              have HM : Hid (w9.ownsRow w2.heap.size 5 1 (.slice A9 26 c9) 26 (cellsOf (headM t r s z))) := kept (own_mono hown (Nat.le_succ_of_le HA25.out.1.1))
              clear hown hb
              (try go_wp2_with fail)
              refine hK.out _ _ (HF2.out.keeps HE.out.1) (fun hHeld => ?_)
              clear hK K
              (try simp only [Act.put, List.setIfInBounds_toArray, List.set_cons_zero, List.set_cons_succ])
              refine hand_take 15 (some 5) ?_ (by kernel_rfl) (by kernel_rfl) (by kernel_rfl) (by kernel_rfl) (by kernel_rfl) (fun _ _ _ h => h) ?_ (by assumption) ?_
              rotate_left
              · intro o ho w hSw; (simp only [List.getElem?_toArray, List.getElem?_cons_succ, List.getElem?_cons_zero, Option.some.injEq] at ho); subst ho; go_simp; (first | done | with_reducible rfl)
              (try simp only [Act.put, List.setIfInBounds_toArray, List.set_cons_zero, List.set_cons_succ])
              refine wpAnyH_done (by kernel_rfl) ?_ _
              go_wp2_with fail
              go_meet
              exact ⟨_, _, rfl, HM, HE⟩
        · skip
          (simp only [List.getElem?_toArray, List.getElem?_cons_succ, List.getElem?_cons_zero, Option.some.injEq] at ho)
          subst ho
          go_simp
          go_at_call 123
          with_reducible refine (HIs _).out.mono ?_
          rintro e W26 ⟨As, cs, rfl, hown, hb⟩
          have HA26 := kept (HA16.out.rd hb (Rd.of_own hown) (own_cap hown))
          clear hown hb
          (try go_wp2_with fail)
          refine hK.out _ _ (HF2.out.keeps HA26.out.1) (fun hHeld => ?_)
          clear hK K
          (try simp only [Act.put, List.setIfInBounds_toArray, List.set_cons_zero, List.set_cons_succ])
          refine hand_ready2 2 12 (by kernel_rfl) (by kernel_rfl) (by kernel_rfl) (fun o ho K hK => ?_) (fun o ho K hK => ?_)
          · skip
            (simp only [List.getElem?_toArray, List.getElem?_cons_succ, List.getElem?_cons_zero, Option.some.injEq] at ho)
            subst ho
            go_simp
            refine name_world (fun W27 hW => ?_)
            have HA27 := kept (HA26.out.lit hW)
            have HL27 : Hid (W27.heap[W26.heap.size]? = some (.cells litT 5 (0, 0))) := kept (lit_heap (X := W26) hW)
            have HG := kept (HA26.out.1.1)
            clear hW
            refine hK.out _ _ (HF2.out.keeps HA27.out.1) (fun hHeld => ?_)
            clear hK K
            (try simp only [Act.put, List.setIfInBounds_toArray, List.set_cons_zero, List.set_cons_succ])
            refine hand_ready2 3 12 (by kernel_rfl) (by kernel_rfl) (by kernel_rfl) (fun o ho K hK => ?_) (fun o ho K hK => ?_)
            · skip
              have kc := conv_at W27 (W26.heap.size) HL27.out
              (simp only [List.getElem?_toArray, List.getElem?_cons_succ, List.getElem?_cons_zero, Option.some.injEq] at ho)
              subst ho
              go_simp
              refine name_world (fun W28 hW => ?_)
              have HA28 := kept (HA27.out.mark HG.out hW)
              clear hW kc
              refine hK.out _ _ (HF2.out.keeps HA28.out.1) (fun hHeld => ?_)
              clear hK K
              (try simp only [Act.put, List.setIfInBounds_toArray, List.set_cons_zero, List.set_cons_succ])
              refine hand_ready 12 (by kernel_rfl) (by kernel_rfl) (fun o ho K hK => ?_)
              (simp only [List.getElem?_toArray, List.getElem?_cons_succ, List.getElem?_cons_zero, Option.some.injEq] at ho)
              subst ho
              go_simp
              go_at_call 123
              with_reducible refine (HIz _).out.mono ?_
              rintro e W29 ⟨Az, cz, rfl, hown, hb⟩
              have HA29 := kept (HA28.out.rd hb (Rd.of_own hown) (own_cap hown))
              clear hown hb
              (try go_wp2_with fail)
              refine hK.out _ _ (HF2.out.keeps HA29.out.1) (fun hHeld => ?_)
              clear hK K
              (try simp only [Act.put, List.setIfInBounds_toArray, List.set_cons_zero, List.set_cons_succ])
              obtain ⟨⟨⟨⟨⟨-, R1, G1⟩, Rr, Gr⟩, Rs, Gs⟩, RL⟩, Rz, Gz⟩ := HA29.out.2.2 _ (Keeps.refl _)
              have RL : Rd W29 (some ⟨W26.heap.size, 0, none⟩) 5 [84, 69, 82, 82, 1] := RL
              have R4 := HO4.out.keeps HA29.out.1
              refine hand_ready 13 (by kernel_rfl) (by kernel_rfl) (fun o ho K hK => ?_)
              (simp only [List.getElem?_toArray, List.getElem?_cons_succ, List.getElem?_cons_zero, Option.some.injEq] at ho)
              subst ho
              go_simp
              refine hK.out _ _ (HF2.out.keeps (HA29.out.1.trans (Keeps.alloc _ _))) (fun hHeld => ?_)
              clear hK K
              (try simp only [Act.put, List.setIfInBounds_toArray, List.set_cons_zero, List.set_cons_succ])
              refine hand_ready 14 (by kernel_rfl) (by kernel_rfl) (fun o ho K hK => ?_)
              (simp only [List.getElem?_toArray, List.getElem?_cons_succ, List.getElem?_cons_zero, Option.some.injEq] at ho)
              subst ho
              go_simp
              go_at_call 122
              with_reducible refine (concat_head t r s z _ _ _ _ _ _ _ _ _ _ _ _ _ _ R1 R4 RL Rr Rs Rz G1 HC4.out (Nat.le_refl 5) Gr Gs Gz).mono ?_
              rintro e w9 ⟨A9, c9, rfl, hown, hb⟩
              have HE := kept (HA29.out.fin hb)
              have HM : Hid (w9.ownsRow w2.heap.size 5 1 (.slice A9 26 c9) 26 (cellsOf (headM t r s z))) := kept (own_mono hown (Nat.le_succ_of_le HA29.out.1.1))
              clear hown hb
              (try go_wp2_with fail)
              refine hK.out _ _ (HF2.out.keeps HE.out.1) (fun hHeld => ?_)
              clear hK K
              (try simp only [Act.put, List.setIfInBounds_toArray, List.set_cons_zero, List.set_cons_succ])
              refine hand_take 15 (some 5) ?_ (by kernel_rfl) (by kernel_rfl) (by kernel_rfl) (by kernel_rfl) (by kernel_rfl) (fun _ _ _ h => h) ?_ (by assumption) ?_
              rotate_left
              · intro o ho w hSw; (simp only [List.getElem?_toArray, List.getElem?_cons_succ, List.getElem?_cons_zero, Option.some.injEq] at ho); subst ho; go_simp; (first | done | with_reducible rfl)
              (try simp only [Act.put, List.setIfInBounds_toArray, List.set_cons_zero, List.set_cons_succ])
              refine wpAnyH_done (by kernel_rfl) ?_ _
              go_wp2_with fail
              go_meet
              exact ⟨_, _, rfl, HM, HE⟩
            · skip
              (simp only [List.getElem?_toArray, List.getElem?_cons_succ, List.getElem?_cons_zero, Option.some.injEq] at ho)
              subst ho
              go_simp
              go_at_call 123
              with_reducible refine (HIz _).out.mono ?_
              rintro e W30 ⟨Az, cz, rfl, hown, hb⟩
              have HA30 := kept (HA27.out.rd hb (Rd.of_own hown) (own_cap hown))
              have HL30 := kept (lit_next HL27.out hb)
              clear hown hb
              (try go_wp2_with fail)
              refine hK.out _ _ (HF2.out.keeps HA30.out.1) (fun hHeld => ?_)
              clear hK K
              (try simp only [Act.put, List.setIfInBounds_toArray, List.set_cons_zero, List.set_cons_succ])
              refine hand_ready 3 (by kernel_rfl) (by kernel_rfl) (fun o ho K hK => ?_)
              have kc := conv_at W30 (W26.heap.size) HL30.out
              (simp only [List.getElem?_toArray, List.getElem?_cons_succ, List.getElem?_cons_zero, Option.some.injEq] at ho)
              subst ho
              go_simp
              refine name_world (fun W31 hW => ?_)
              have HA31 := kept (HA30.out.mark HG.out hW)
              clear hW kc
              refine hK.out _ _ (HF2.out.keeps HA31.out.1) (fun hHeld => ?_)
              clear hK K
              (try simp only [Act.put, List.setIfInBounds_toArray, List.set_cons_zero, List.set_cons_succ])
              obtain ⟨⟨⟨⟨⟨-, R1, G1⟩, Rr, Gr⟩, Rs, Gs⟩, RL⟩, Rz, Gz⟩ := HA31.out.2.2 _ (Keeps.refl _)
              have RL : Rd W31 (some ⟨W26.heap.size, 0, none⟩) 5 [84, 69, 82, 82, 1] := RL
              have R4 := HO4.out.keeps HA31.out.1
              refine hand_ready 13 (by kernel_rfl) (by kernel_rfl) (fun o ho K hK => ?_)
              (simp only [List.getElem?_toArray, List.getElem?_cons_succ, List.getElem?_cons_zero, Option.some.injEq] at ho)
              subst ho
              go_simp
              refine hK.out _ _ (HF2.out.keeps (HA31.out.1.trans (Keeps.alloc _ _))) (fun hHeld => ?_)
              clear hK K
              (try simp only [Act.put, List.setIfInBounds_toArray, List.set_cons_zero, List.set_cons_succ])
              refine hand_ready 14 (by kernel_rfl) (by kernel_rfl) (fun o ho K hK => ?_)
              (simp only [List.getElem?_toArray, List.getElem?_cons_succ, List.getElem?_cons_zero, Option.some.injEq] at ho)
              subst ho
              go_simp
              go_at_call 122
              with_reducible refine (concat_head t r s z _ _ _ _ _ _ _ _ _ _ _ _ _ _ R1 R4 RL Rr Rs Rz G1 HC4.out (Nat.le_refl 5) Gr Gs Gz).mono ?_
              rintro e w9 ⟨A9, c9, rfl, hown, hb⟩
              have HE := kept (HA31.out.fin hb)
              have HM : Hid (w9.ownsRow w2.heap.size 5 1 (.slice A9 26 c9) 26 (cellsOf (headM t r s z))) := kept (own_mono hown (Nat.le_succ_of_le HA31.out.1.1))
              clear hown hb
              (try go_wp2_with fail)
              refine hK.out _ _ (HF2.out.keeps HE.out.1) (fun hHeld => ?_)
              clear hK K
              (try simp only [Act.put, List.setIfInBounds_toArray, List.set_cons_zero, List.set_cons_succ])
              refine hand_take 15 (some 5) ?_ (by kernel_rfl) (by kernel_rfl) (by kernel_rfl) (by kernel_rfl) (by kernel_rfl) (fun _ _ _ h => h) ?_ (by assumption) ?_
              rotate_left
              · intro o ho w hSw; (simp only [List.getElem?_toArray, List.getElem?_cons_succ, List.getElem?_cons_zero, Option.some.injEq] at ho); subst ho; go_simp; (first | done | with_reducible rfl)
              (try simp only [Act.put, List.setIfInBounds_toArray, List.set_cons_zero, List.set_cons_succ])
              refine wpAnyH_done (by kernel_rfl) ?_ _
              go_wp2_with fail
              go_meet
              exact ⟨_, _, rfl, HM, HE⟩
          · skip
            (simp only [List.getElem?_toArray, List.getElem?_cons_succ, List.getElem?_cons_zero, Option.some.injEq] at ho)
            subst ho
            go_simp
            go_at_call 123
            with_reducible refine (HIz _).out.mono ?_
            rintro e W32 ⟨Az, cz, rfl, hown, hb⟩
            have HA32 := kept (HA26.out.rd hb (Rd.of_own hown) (own_cap hown))
            clear hown hb
            (try go_wp2_with fail)
            refine hK.out _ _ (HF2.out.keeps HA32.out.1) (fun hHeld => ?_)
            clear hK K
            (try simp only [Act.put, List.setIfInBounds_toArray, List.set_cons_zero, List.set_cons_succ])
            refine hand_ready 2 (by kernel_rfl) (by kernel_rfl) (fun o ho K hK => ?_)
            (simp only [List.getElem?_toArray, List.getElem?_cons_succ, List.getElem?_cons_zero, Option.some.injEq] at ho)
            subst ho
            go_simp
            refine name_world (fun W33 hW => ?_)
            have HA33 := kept (HA32.out.lit hW)
            have HL33 : Hid (W33.heap[W32.heap.size]? = some (.cells litT 5 (0, 0))) := kept (lit_heap (X := W32) hW)
            have HG := kept (HA32.out.1.1)
            clear hW
            refine hK.out _ _ (HF2.out.keeps HA33.out.1) (fun hHeld => ?_)
            clear hK K
            (try simp only [Act.put, List.setIfInBounds_toArray, List.set_cons_zero, List.set_cons_succ])
            refine hand_ready 3 (by kernel_rfl) (by kernel_rfl) (fun o ho K hK => ?_)
            have kc := conv_at W33 (W32.heap.size) HL33.out
            (simp only [List.getElem?_toArray, List.getElem?_cons_succ, List.getElem?_cons_zero, Option.some.injEq] at ho)
            subst ho
            go_simp
            refine name_world (fun W34 hW => ?_)
            have HA34 := kept (HA33.out.mark HG.out hW)
            clear hW kc
            refine hK.out _ _ (HF2.out.keeps HA34.out.1) (fun hHeld => ?_)
            clear hK K
            (try simp only [Act.put, List.setIfInBounds_toArray, List.set_cons_zero, List.set_cons_succ])
            obtain ⟨⟨⟨⟨⟨-, R1, G1⟩, Rr, Gr⟩, Rs, Gs⟩, Rz, Gz⟩, RL⟩ := HA34.out.2.2 _ (Keeps.refl _)
            have RL : Rd W34 (some ⟨W32.heap.size, 0, none⟩) 5 [84, 69, 82, 82, 1] := RL
            have R4 := HO4.out.keeps HA34.out.1
            refine hand_ready 13 (by kernel_rfl) (by kernel_rfl) (fun o ho K hK => ?_)
            (simp only [List.getElem?_toArray, List.getElem?_cons_succ, List.getElem?_cons_zero, Option.some.injEq] at ho)
            subst ho
            go_simp
            refine hK.out _ _ (HF2.out.keeps (HA34.out.1.trans (Keeps.alloc _ _))) (fun hHeld => ?_)
            clear hK K
            (try simp only [Act.put, List.setIfInBounds_toArray, List.set_cons_zero, List.set_cons_succ])
            refine hand_ready 14 (by kernel_rfl) (by kernel_rfl) (fun o ho K hK => ?_)
            (simp only [List.getElem?_toArray, List.getElem?_cons_succ, List.getElem?_cons_zero, Option.some.injEq] at ho)
            subst ho
            go_simp
            go_at_call 122
            with_reducible refine (concat_head t r s z _ _ _ _ _ _ _ _ _ _ _ _ _ _ R1 R4 RL Rr Rs Rz G1 HC4.out (Nat.le_refl 5) Gr Gs Gz).mono ?_
            rintro e w9 ⟨A9, c9, rfl, hown, hb⟩
            have HE := kept (HA34.out.fin hb)
            have HM : Hid (w9.ownsRow w2.heap.size 5 1 (.slice A9 26 c9) 26 (cellsOf (headM t r s z))) := kept (own_mono hown (Nat.le_succ_of_le HA34.out.1.1))
            clear hown hb
            (try go_wp2_with fail)
            refine hK.out _ _ (HF2.out.keeps HE.out.1) (fun hHeld => ?_)
            clear hK K
            (try simp only [Act.put, List.setIfInBounds_toArray, List.set_cons_zero, List.set_cons_succ])
            refine hand_take 15 (some 5) ?_ (by kernel_rfl) (by kernel_rfl) (by kernel_rfl) (by kernel_rfl) (by kernel_rfl) (fun _ _ _ h => h) ?_ (by assumption) ?_
            rotate_left
            · intro o ho w hSw; (simp only [List.getElem?_toArray, List.getElem?_cons_succ, List.getElem?_cons_zero, Option.some.injEq] at ho); subst ho; go_simp; (first | done | with_reducible rfl)
            (try simp only [Act.put, List.setIfInBounds_toArray, List.set_cons_zero, List.set_cons_succ])
            refine wpAnyH_done (by kernel_rfl) ?_ _
            go_wp2_with fail
            go_meet
            exact ⟨_, _, rfl, HM, HE⟩
    · skip
      (simp only [List.getElem?_toArray, List.getElem?_cons_succ, List.getElem?_cons_zero, Option.some.injEq] at ho)
      subst ho
      go_simp
      refine name_world (fun W35 hW => ?_)
      have HA35 := kept (HA0.out.lit hW)
      have HL35 : Hid (W35.heap[w2.heap.size]? = some (.cells litT 5 (0, 0))) := kept (lit_heap (X := w2.drew) hW)
      have HG := kept (HA0.out.1.1)
      clear hW
      refine hK.out _ _ (HF2.out.keeps HA35.out.1) (fun hHeld => ?_)
      clear hK K
      (try simp only [Act.put, List.setIfInBounds_toArray, List.set_cons_zero, List.set_cons_succ])
      refine hand_ready2 0 3 (by kernel_rfl) (by kernel_rfl) (by kernel_rfl) (fun o ho K hK => ?_) (fun o ho K hK => ?_)
      · skip
        (simp only [List.getElem?_toArray, List.getElem?_cons_succ, List.getElem?_cons_zero, Option.some.injEq] at ho)
        subst ho
        go_simp
        go_at_call 121
        with_reducible refine (HN1 _).out.mono ?_
        rintro e W36 ⟨A1, c1, rfl, hown, hb⟩
        have HA36 := kept (HA35.out.rd hb (Rd.of_own hown) (own_cap hown))
        have HL36 := kept (lit_next HL35.out hb)
        clear hown hb
        (try go_wp2_with fail)
        refine hK.out _ _ (HF2.out.keeps HA36.out.1) (fun hHeld => ?_)
        clear hK K
        (try simp only [Act.put, List.setIfInBounds_toArray, List.set_cons_zero, List.set_cons_succ])
        refine hand_ready2 3 6 (by kernel_rfl) (by kernel_rfl) (by kernel_rfl) (fun o ho K hK => ?_) (fun o ho K hK => ?_)
        · skip
          have kc := conv_at W36 (w2.heap.size) HL36.out
          (simp only [List.getElem?_toArray, List.getElem?_cons_succ, List.getElem?_cons_zero, Option.some.injEq] at ho)
          subst ho
          go_simp
          refine name_world (fun W37 hW => ?_)
          have HA37 := kept (HA36.out.mark HG.out hW)
          clear hW kc
          refine hK.out _ _ (HF2.out.keeps HA37.out.1) (fun hHeld => ?_)
          clear hK K
          (try simp only [Act.put, List.setIfInBounds_toArray, List.set_cons_zero, List.set_cons_succ])
          refine hand_ready 6 (by kernel_rfl) (by kernel_rfl) (fun o ho K hK => ?_)
          (simp only [List.getElem?_toArray, List.getElem?_cons_succ, List.getElem?_cons_zero, Option.some.injEq] at ho)
          subst ho
          go_simp
          go_at_call 123
          with_reducible refine (HIr _).out.mono ?_
          rintro e W38 ⟨Ar, cr, rfl, hown, hb⟩
          have HA38 := kept (HA37.out.rd hb (Rd.of_own hown) (own_cap hown))
          clear hown hb
          (try go_wp2_with fail)
          refine hK.out _ _ (HF2.out.keeps HA38.out.1) (fun hHeld => ?_)
          clear hK K
          (try simp only [Act.put, List.setIfInBounds_toArray, List.set_cons_zero, List.set_cons_succ])
          refine hand_ready 9 (by kernel_rfl) (by kernel_rfl) (fun o ho K hK => ?_)
          (simp only [List.getElem?_toArray, List.getElem?_cons_succ, List.getElem?_cons_zero, Option.some.injEq] at ho)
          subst ho
          go_simp
          go_at_call 123
          with_reducible refine (HIs _).out.mono ?_
          rintro e W39 ⟨As, cs, rfl, hown, hb⟩
          have HA39 := kept (HA38.out.rd hb (Rd.of_own hown) (own_cap hown))
          clear hown hb
          (try go_wp2_with fail)
          refine hK.out _ _ (HF2.out.keeps HA39.out.1) (fun hHeld => ?_)
          clear hK K
          (try simp only [Act.put, List.setIfInBounds_toArray, List.set_cons_zero, List.set_cons_succ])
          refine hand_ready 12 (by kernel_rfl) (by kernel_rfl) (fun o ho K hK => ?_)
          (simp only [List.getElem?_toArray, List.getElem?_cons_succ, List.getElem?_cons_zero, Option.some.injEq] at ho)
          subst ho
          go_simp
          go_at_call 123
          with_reducible refine (HIz _).out.mono ?_
          rintro e W40 ⟨Az, cz, rfl, hown, hb⟩
          have HA40 := kept (HA39.out.rd hb (Rd.of_own hown) (own_cap hown))
          clear hown hb
          (try go_wp2_with fail)
          refine hK.out _ _ (HF2.out.keeps HA40.out.1) (fun hHeld => ?_)
          clear hK K
          (try simp only [Act.put, List.setIfInBounds_toArray, List.set_cons_zero, List.set_cons_succ])
          obtain ⟨⟨⟨⟨⟨-, RL⟩, R1, G1⟩, Rr, Gr⟩, Rs, Gs⟩, Rz, Gz⟩ := HA40.out.2.2 _ (Keeps.refl _)
          have RL : Rd W40 (some ⟨w2.heap.size, 0, none⟩) 5 [84, 69, 82, 82, 1] := RL
          have R4 := HO4.out.keeps HA40.out.1
          refine hand_ready 13 (by kernel_rfl) (by kernel_rfl) (fun o ho K hK => ?_)
          (simp only [List.getElem?_toArray, List.getElem?_cons_succ, List.getElem?_cons_zero, Option.some.injEq] at ho)
          subst ho
          go_simp
          refine hK.out _ _ (HF2.out.keeps (HA40.out.1.trans (Keeps.alloc _ _))) (fun hHeld => ?_)
          clear hK K
          (try simp only [Act.put, List.setIfInBounds_toArray, List.set_cons_zero, List.set_cons_succ])
          refine hand_ready 14 (by kernel_rfl) (by kernel_rfl) (fun o ho K hK => ?_)
          (simp only [List.getElem?_toArray, List.getElem?_cons_succ, List.getElem?_cons_zero, Option.some.injEq] at ho)
          subst ho
          go_simp
          go_at_call 122
          with_reducible refine (concat_head t r s z _ _ _ _ _ _ _ _ _ _ _ _ _ _ R1 R4 RL Rr Rs Rz G1 HC4.out (Nat.le_refl 5) Gr Gs Gz).mono ?_
          rintro e w9 ⟨A9, c9, rfl, hown, hb⟩
          have HE := kept (HA40.out.fin hb)
          have HM : Hid (w9.ownsRow w2.heap.size 5 1 (.slice A9 26 c9) 26 (cellsOf (headM t r s z))) := kept (own_mono hown (Nat.le_succ_of_le HA40.out.1.1))
          clear hown hb
          (try go_wp2_with fail)
          refine hK.out _ _ (HF2.out.keeps HE.out.1) (fun hHeld => ?_)
          clear hK K
          (try simp only [Act.put, List.setIfInBounds_toArray, List.set_cons_zero, List.set_cons_succ])
          refine hand_take 15 (some 5) ?_ (by kernel_rfl) (by kernel_rfl) (by kernel_rfl) (by kernel_rfl) (by kernel_rfl) (fun _ _ _ h => h) ?_ (by assumption) ?_
          rotate_left
          · intro o ho w hSw; (simp only [List.getElem?_toArray, List.getElem?_cons_succ, List.getElem?_cons_zero, Option.some.injEq] at ho); subst ho; go_simp; (first | done | with_reducible rfl)
          (try simp only [Act.put, List.setIfInBounds_toArray, List.set_cons_zero, List.set_cons_succ])
          refine wpAnyH_done (by kernel_rfl) ?_ _
          go_wp2_with fail
          go_meet
          exact ⟨_, _, rfl, HM, HE⟩
        · skip
          (simp only [List.getElem?_toArray, List.getElem?_cons_succ, List.getElem?_cons_zero, Option.some.injEq] at ho)
          subst ho
          go_simp
          go_at_call 123
          with_reducible refine (HIr _).out.mono ?_
          rintro e W41 ⟨Ar, cr, rfl, hown, hb⟩
          have HA41 := kept (HA36.out.rd hb (Rd.of_own hown) (own_cap hown))
          have HL41 := kept (lit_next HL36.out hb)
          clear hown hb
          (try go_wp2_with fail)
          refine hK.out _ _ (HF2.out.keeps HA41.out.1) (fun hHeld => ?_)
          clear hK K
          (try simp only [Act.put, List.setIfInBounds_toArray, List.set_cons_zero, List.set_cons_succ])
          refine hand_ready2 3 9 (by kernel_rfl) (by kernel_rfl) (by kernel_rfl) (fun o ho K hK => ?_) (fun o ho K hK => ?_)
          · skip
            have kc := conv_at W41 (w2.heap.size) HL41.out
            (simp only [List.getElem?_toArray, List.getElem?_cons_succ, List.getElem?_cons_zero, Option.some.injEq] at ho)
            subst ho
            go_simp
            refine name_world (fun W42 hW => ?_)
            have HA42 := kept (HA41.out.mark HG.out hW)
            clear hW kc
            refine hK.out _ _ (HF2.out.keeps HA42.out.1) (fun hHeld => ?_)
            clear hK K
            (try simp only [Act.put, List.setIfInBounds_toArray, List.set_cons_zero, List.set_cons_succ])
            refine hand_ready 9 (by kernel_rfl) (by kernel_rfl) (fun o ho K hK => ?_)
            (simp only [List.getElem?_toArray, List.getElem?_cons_succ, List.getElem?_cons_zero, Option.some.injEq] at ho)
            subst ho
            go_simp
            go_at_call 123
            with_reducible refine (HIs _).out.mono ?_
            rintro e W43 ⟨As, cs, rfl, hown, hb⟩
            have HA43 := kept (HA42.out.rd hb (Rd.of_own hown) (own_cap hown))
            clear hown hb
            (try go_wp2_with fail)
            refine hK.out _ _ (HF2.out.keeps HA43.out.1) (fun hHeld => ?_)
            clear hK K
            (try simp only [Act.put, List.setIfInBounds_toArray, List.set_cons_zero, List.set_cons_succ])
            refine hand_ready 12 (by kernel_rfl) (by kernel_rfl) (fun o ho K hK => ?_)
            (simp only [List.getElem?_toArray, List.getElem?_cons_succ, List.getElem?_cons_zero, Option.some.injEq] at ho)
            subst ho
            go_simp
            go_at_call 123
            with_reducible refine (HIz _).out.mono ?_
            rintro e W44 ⟨Az, cz, rfl, hown, hb⟩
            have HA44 := kept (HA43.out.rd hb (Rd.of_own hown) (own_cap hown))
            clear hown hb
            (try go_wp2_with fail)
            refine hK.out _ _ (HF2.out.keeps HA44.out.1) (fun hHeld => ?_)
            clear hK K
            (try simp only [Act.put, List.setIfInBounds_toArray, List.set_cons_zero, List.set_cons_succ])
            obtain ⟨⟨⟨⟨⟨-, RL⟩, R1, G1⟩, Rr, Gr⟩, Rs, Gs⟩, Rz, Gz⟩ := HA44.out.2.2 _ (Keeps.refl _)
            have RL : Rd W44 (some ⟨w2.heap.size, 0, none⟩) 5 [84, 69, 82, 82, 1] := RL
            have R4 := HO4.out.keeps HA44.out.1
            refine hand_ready 13 (by kernel_rfl) (by kernel_rfl) (fun o ho K hK => ?_)
            (simp only [List.getElem?_toArray, List.getElem?_cons_succ, List.getElem?_cons_zero, Option.some.injEq] at ho)
            subst ho
            go_simp
            refine hK.out _ _ (HF2.out.keeps (HA44.out.1.trans (Keeps.alloc _ _))) (fun hHeld => ?_)
            clear hK K
            (try simp only [Act.put, List.setIfInBounds_toArray, List.set_cons_zero, List.set_cons_succ])
            refine hand_ready 14 (by kernel_rfl) (by kernel_rfl) (fun o ho K hK => ?_)
            (simp only [List.getElem?_toArray, List.getElem?_cons_succ, List.getElem?_cons_zero, Option.some.injEq] at ho)
            subst ho
            go_simp
            go_at_call 122
            with_reducible refine (concat_head t r s z _ _ _ _ _ _ _ _ _ _ _ _ _ _ R1 R4 RL Rr Rs Rz G1 HC4.out (Nat.le_refl 5) Gr Gs Gz).mono ?_
            rintro e w9 ⟨A9, c9, rfl, hown, hb⟩
            have HE := kept (HA44.out.fin hb)
            have HM : Hid (w9.ownsRow w2.heap.size 5 1 (.slice A9 26 c9) 26 (cellsOf (headM t r s z))) := kept (own_mono hown (Nat.le_succ_of_le HA44.out.1.1))
            clear hown hb
            (try go_wp2_with fail)
            refine hK.out _ _ (HF2.out.keeps HE.out.1) (fun hHeld => ?_)
            clear hK K
            (try simp only [Act.put, List.setIfInBounds_toArray, List.set_cons_zero, List.set_cons_succ])
            refine hand_take 15 (some 5) ?_ (by kernel_rfl) (by kernel_rfl) (by kernel_rfl) (by kernel_rfl) (by kernel_rfl) (fun _ _ _ h => h) ?_ (by assumption) ?_
            rotate_left
            · intro o ho w hSw; (simp only [List.getElem?_toArray, List.getElem?_cons_succ, List.getElem?_cons_zero, Option.some.injEq] at ho); subst ho; go_simp; (first | done | with_reducible rfl)
            (try simp only [Act.put, List.setIfInBounds_toArray, List.set_cons_zero, List.set_cons_succ])
            refine wpAnyH_done (by kernel_rfl) ?_ _
            go_wp2_with fail
            go_meet
            exact ⟨_, _, rfl, HM, HE⟩
          · skip
            (simp only [List.getElem?_toArray, List.getElem?_cons_succ, List.getElem?_cons_zero, Option.some.injEq] at ho)
            subst ho
            go_simp
            go_at_call 123
            with_reducible refine (HIs _).out.mono ?_
            rintro e W45 ⟨As, cs, rfl, hown, hb⟩
            have HA45 := kept (HA41.out.rd hb (Rd.of_own hown) (own_cap hown))
            have HL45 := kept (lit_next HL41.out hb)
            clear hown hb
            (try go_wp2_with fail)
            refine hK.out _ _ (HF2.out.keeps HA45.out.1) (fun hHeld => ?_)
            clear hK K
            (try simp only [Act.put, List.setIfInBounds_toArray, List.set_cons_zero, List.set_cons_succ])
            refine hand_ready2 3 12 (by kernel_rfl) (by kernel_rfl) (by kernel_rfl) (fun o ho K hK => ?_) (fun o ho K hK => ?_)
            · skip
              have kc := conv_at W45 (w2.heap.size) HL45.out
              (simp only [List.getElem?_toArray, List.getElem?_cons_succ, List.getElem?_cons_zero, Option.some.injEq] at ho)
              subst ho
              go_simp
              refine name_world (fun W46 hW => ?_)
              have HA46 := kept (HA45.out.mark HG.out hW)
              clear hW kc
              refine hK.out _ _ (HF2.out.keeps HA46.out.1) (fun hHeld => ?_)
              clear hK K
              (try simp only [Act.put, List.setIfInBounds_toArray, List.set_cons_zero, List.set_cons_succ])
              refine hand_ready 12 (by kernel_rfl) (by kernel_rfl) (fun o ho K hK => ?_)
              (simp only [List.getElem?_toArray, List.getElem?_cons_succ, List.getElem?_cons_zero, Option.some.injEq] at ho)
              subst ho
              go_simp
              go_at_call 123
              with_reducible refine (HIz _).out.mono ?_
              rintro e W47 ⟨Az, cz, rfl, hown, hb⟩
              have HA47 := kept (HA46.out.rd hb (Rd.of_own hown) (own_cap hown))
              clear hown hb
              (try go_wp2_with fail)
              refine hK.out _ _ (HF2.out.keeps HA47.out.1) (fun hHeld => ?_)
              clear hK K
              (try simp only [Act.put, List.setIfInBounds_toArray, List.set_cons_zero, List.set_cons_succ])
              obtain ⟨⟨⟨⟨⟨-, RL⟩, R1, G1⟩, Rr, Gr⟩, Rs, Gs⟩, Rz, Gz⟩ := HA47.out.2.2 _ (Keeps.refl _)
              have RL : Rd W47 (some ⟨w2.heap.size, 0, none⟩) 5 [84, 69, 82, 82, 1] := RL
              have R4 := HO4.out.keeps HA47.out.1
              refine hand_ready 13 (by kernel_rfl) (by kernel_rfl) (fun o ho K hK => ?_)
              (simp only [List.getElem?_toArray, List.getElem?_cons_succ, List.getElem?_cons_zero, Option.some.injEq] at ho)
              subst ho
              go_simp
              refine hK.out _ _ (HF2.out.keeps (HA47.out.1.trans (Keeps.alloc _ _))) (fun hHeld => ?_)
              clear hK K
              (try simp only [Act.put, List.setIfInBounds_toArray, List.set_cons_zero, List.set_cons_succ])
              refine hand_ready 14 (by kernel_rfl) (by kernel_rfl) (fun o ho K hK => ?_)
              (simp only [List.getElem?_toArray, List.getElem?_cons_succ, List.getElem?_cons_zero, Option.some.injEq] at ho)
              subst ho
              go_simp
              go_at_call 122
              with_reducible refine (concat_head t r s z _ _ _ _ _ _ _ _ _ _ _ _ _ _ R1 R4 RL Rr Rs Rz G1 HC4.out (Nat.le_refl 5) Gr Gs Gz).mono ?_
              rintro e w9 ⟨A9, c9, rfl, hown, hb⟩
              have HE := kept (HA47.out.fin hb)
              have HM : Hid (w9.ownsRow w2.heap.size 5 1 (.slice A9 26 c9) 26 (cellsOf (headM t r s z))) := kept (own_mono hown (Nat.le_succ_of_le HA47.out.1.1))
              clear hown hb
              (try go_wp2_with fail)
              refine hK.out _ _ (HF2.out.keeps HE.out.1) (fun hHeld => ?_)
              clear hK K
              (try simp only [Act.put, List.setIfInBounds_toArray, List.set_cons_zero, List.set_cons_succ])
              refine hand_take 15 (some 5) ?_ (by kernel_rfl) (by kernel_rfl) (by kernel_rfl) (by kernel_rfl) (by kernel_rfl) (fun _ _ _ h => h) ?_ (by assumption) ?_
              rotate_left
              · intro o ho w hSw; (simp only [List.getElem?_toArray, List.getElem?_cons_succ, List.getElem?_cons_zero, Option.some.injEq] at ho); subst ho; go_simp; (first | done | with_reducible rfl)
              (try simp only [Act.put, List.setIfInBounds_toArray, List.set_cons_zero, List.set_cons_succ])
              refine wpAnyH_done (by kernel_rfl) ?_ _
              go_wp2_with fail
              go_meet
              exact ⟨_, _, rfl, HM, HE⟩
            · skip
              (simp only [List.getElem?_toArray, List.getElem?_cons_succ, List.getElem?_cons_zero, Option.some.injEq] at ho)
              subst ho
              go_simp
              go_at_call 123
              with_reducible refine (HIz _).out.mono ?_
              rintro e W48 ⟨Az, cz, rfl, hown, hb⟩
              have HA48 := kept (HA45.out.rd hb (Rd.of_own hown) (own_cap hown))
              have HL48 := kept (lit_next HL45.out hb)
              clear hown hb
              (try go_wp2_with fail)
              refine hK.out _ _ (HF2.out.keeps HA48.out.1) (fun hHeld => ?_)
              clear hK K
              (try simp only [Act.put, List.setIfInBounds_toArray, List.set_cons_zero, List.set_cons_succ])
              refine hand_ready 3 (by kernel_rfl) (by kernel_rfl) (fun o ho K hK => ?_)
              have kc := conv_at W48 (w2.heap.size) HL48.out
              (simp only [List.getElem?_toArray, List.getElem?_cons_succ, List.getElem?_cons_zero, Option.some.injEq] at ho)
              subst ho
              go_simp
              refine name_world (fun W49 hW => ?_)
              have HA49 := kept (HA48.out.mark HG.out hW)
              clear hW kc
              refine hK.out _ _ (HF2.out.keeps HA49.out.1) (fun hHeld => ?_)
              clear hK K
              (try simp only [Act.put, List.setIfInBounds_toArray, List.set_cons_zero, List.set_cons_succ])
              obtain ⟨⟨⟨⟨⟨-, RL⟩, R1, G1⟩, Rr, Gr⟩, Rs, Gs⟩, Rz, Gz⟩ := HA49.out.2.2 _ (Keeps.refl _)
              have RL : Rd W49 (some ⟨w2.heap.size, 0, none⟩) 5 [84, 69, 82, 82, 1] := RL
              have R4 := HO4.out.keeps HA49.out.1
              refine hand_ready 13 (by kernel_rfl) (by kernel_rfl) (fun o ho K hK => ?_)
              (simp only [List.getElem?_toArray, List.getElem?_cons_succ, List.getElem?_cons_zero, Option.some.injEq] at ho)
              subst ho
              go_simp
              refine hK.out _ _ (HF2.out.keeps (HA49.out.1.trans (Keeps.alloc _ _))) (fun hHeld => ?_)
              clear hK K
              (try simp only [Act.put, List.setIfInBounds_toArray, List.set_cons_zero, List.set_cons_succ])
              refine hand_ready 14 (by kernel_rfl) (by kernel_rfl) (fun o ho K hK => ?_)
              (simp only [List.getElem?_toArray, List.getElem?_cons_succ, List.getElem?_cons_zero, Option.some.injEq] at ho)
              subst ho
              go_simp
              go_at_call 122
              with_reducible refine (concat_head t r s z _ _ _ _ _ _ _ _ _ _ _ _ _ _ R1 R4 RL Rr Rs Rz G1 HC4.out (Nat.le_refl 5) Gr Gs Gz).mono ?_
              rintro e w9 ⟨A9, c9, rfl, hown, hb⟩
              have HE := kept (HA49.out.fin hb)
              have HM : Hid (w9.ownsRow w2.heap.size 5 1 (.slice A9 26 c9) 26 (cellsOf (headM t r s z))) := kept (own_mono hown (Nat.le_succ_of_le HA49.out.1.1))
              clear hown hb
              (try go_wp2_with fail)
              refine hK.out _ _ (HF2.out.keeps HE.out.1) (fun hHeld => ?_)
              clear hK K
              (try simp only [Act.put, List.setIfInBounds_toArray, List.set_cons_zero, List.set_cons_succ])
              refine hand_take 15 (some 5) ?_ (by kernel_rfl) (by kernel_rfl) (by kernel_rfl) (by kernel_rfl) (by kernel_rfl) (fun _ _ _ h => h) ?_ (by assumption) ?_
              rotate_left
              · intro o ho w hSw; (simp only [List.getElem?_toArray, List.getElem?_cons_succ, List.getElem?_cons_zero, Option.some.injEq] at ho); subst ho; go_simp; (first | done | with_reducible rfl)
              (try simp only [Act.put, List.setIfInBounds_toArray, List.set_cons_zero, List.set_cons_succ])
              refine wpAnyH_done (by kernel_rfl) ?_ _
              go_wp2_with fail
              go_meet
              exact ⟨_, _, rfl, HM, HE⟩
      · skip
        have kc := conv_at W35 (w2.heap.size) HL35.out
        (simp only [List.getElem?_toArray, List.getElem?_cons_succ, List.getElem?_cons_zero, Option.some.injEq] at ho)
        subst ho
        go_simp
        refine name_world (fun W50 hW => ?_)
        have HA50 := kept (HA35.out.mark HG.out hW)
        clear hW kc
        refine hK.out _ _ (HF2.out.keeps HA50.out.1) (fun hHeld => ?_)
        clear hK K
        (try simp only [Act.put, List.setIfInBounds_toArray, List.set_cons_zero, List.set_cons_succ])
        refine hand_ready 0 (by kernel_rfl) (by kernel_rfl) (fun o ho K hK => ?_)
        (simp only [List.getElem?_toArray, List.getElem?_cons_succ, List.getElem?_cons_zero, Option.some.injEq] at ho)
        subst ho
        go_simp
        go_at_call 121
        with_reducible refine (HN1 _).out.mono ?_
        rintro e W51 ⟨A1, c1, rfl, hown, hb⟩
        have HA51 := kept (HA50.out.rd hb (Rd.of_own hown) (own_cap hown))
        clear hown hb
        (try go_wp2_with fail)
        refine hK.out _ _ (HF2.out.keeps HA51.out.1) (fun hHeld => ?_)
        clear hK K
        (try simp only [Act.put, List.setIfInBounds_toArray, List.set_cons_zero, List.set_cons_succ])
        refine hand_ready 6 (by kernel_rfl) (by kernel_rfl) (fun o ho K hK => ?_)
        (simp only [List.getElem?_toArray, List.getElem?_cons_succ, List.getElem?_cons_zero, Option.some.injEq] at ho)
        subst ho
        go_simp
        go_at_call 123
        with_reducible refine (HIr _).out.mono ?_
        rintro e W52 ⟨Ar, cr, rfl, hown, hb⟩
        have HA52 := kept (HA51.out.rd hb (Rd.of_own hown) (own_cap hown))
        clear hown hb
        (try go_wp2_with fail)
        refine hK.out _ _ (HF2.out.keeps HA52.out.1) (fun hHeld => ?_)
        clear hK K
        (try simp only [Act.put, List.setIfInBounds_toArray, List.set_cons_zero, List.set_cons_succ])
        refine hand_ready 9 (by kernel_rfl) (by kernel_rfl) (fun o ho K hK => ?_)
        (simp only [List.getElem?_toArray, List.getElem?_cons_succ, List.getElem?_cons_zero, Option.some.injEq] at ho)
        subst ho
        go_simp
        go_at_call 123
        with_reducible refine (HIs _).out.mono ?_
        rintro e W53 ⟨As, cs, rfl, hown, hb⟩
        have HA53 := kept (HA52.out.rd hb (Rd.of_own hown) (own_cap hown))
        clear hown hb
        (try go_wp2_with fail)
        refine hK.out _ _ (HF2.out.keeps HA53.out.1) (fun hHeld => ?_)
        clear hK K
        (try simp only [Act.put, List.setIfInBounds_toArray, List.set_cons_zero, List.set_cons_succ])
        refine hand_ready 12 (by kernel_rfl) (by kernel_rfl) (fun o ho K hK => ?_)
        (simp only [List.getElem?_toArray, List.getElem?_cons_succ, List.getElem?_cons_zero, Option.some.injEq] at ho)
        subst ho
        go_simp
        go_at_call 123
        with_reducible refine (HIz _).out.mono ?_
        rintro e W54 ⟨Az, cz, rfl, hown, hb⟩
        have HA54 := kept (HA53.out.rd hb (Rd.of_own hown) (own_cap hown))
        clear hown hb
        (try go_wp2_with fail)
        refine hK.out _ _ (HF2.out.keeps HA54.out.1) (fun hHeld => ?_)
        clear hK K
        (try simp only [Act.put, List.setIfInBounds_toArray, List.set_cons_zero, List.set_cons_succ])
        obtain ⟨⟨⟨⟨⟨-, RL⟩, R1, G1⟩, Rr, Gr⟩, Rs, Gs⟩, Rz, Gz⟩ := HA54.out.2.2 _ (Keeps.refl _)
        have RL : Rd W54 (some ⟨w2.heap.size, 0, none⟩) 5 [84, 69, 82, 82, 1] := RL
        have R4 := HO4.out.keeps HA54.out.1
        refine hand_ready 13 (by kernel_rfl) (by kernel_rfl) (fun o ho K hK => ?_)
        (simp only [List.getElem?_toArray, List.getElem?_cons_succ, List.getElem?_cons_zero, Option.some.injEq] at ho)
        subst ho
        go_simp
        refine hK.out _ _ (HF2.out.keeps (HA54.out.1.trans (Keeps.alloc _ _))) (fun hHeld => ?_)
        clear hK K
        (try simp only [Act.put, List.setIfInBounds_toArray, List.set_cons_zero, List.set_cons_succ])
        refine hand_ready 14 (by kernel_rfl) (by kernel_rfl) (fun o ho K hK => ?_)
        (simp only [List.getElem?_toArray, List.getElem?_cons_succ, List.getElem?_cons_zero, Option.some.injEq] at ho)
        subst ho
        go_simp
        go_at_call 122
        with_reducible refine (concat_head t r s z _ _ _ _ _ _ _ _ _ _ _ _ _ _ R1 R4 RL Rr Rs Rz G1 HC4.out (Nat.le_refl 5) Gr Gs Gz).mono ?_
        rintro e w9 ⟨A9, c9, rfl, hown, hb⟩
        have HE := kept (HA54.out.fin hb)
        have HM : Hid (w9.ownsRow w2.heap.size 5 1 (.slice A9 26 c9) 26 (cellsOf (headM t r s z))) := kept (own_mono hown (Nat.le_succ_of_le HA54.out.1.1))
        clear hown hb
        (try go_wp2_with fail)
        refine hK.out _ _ (HF2.out.keeps HE.out.1) (fun hHeld => ?_)
        clear hK K
        (try simp only [Act.put, List.setIfInBounds_toArray, List.set_cons_zero, List.set_cons_succ])
        refine hand_take 15 (some 5) ?_ (by kernel_rfl) (by kernel_rfl) (by kernel_rfl) (by kernel_rfl) (by kernel_rfl) (fun _ _ _ h => h) ?_ (by assumption) ?_
        rotate_left
        · intro o ho w hSw; (simp only [List.getElem?_toArray, List.getElem?_cons_succ, List.getElem?_cons_zero, Option.some.injEq] at ho); subst ho; go_simp; (first | done | with_reducible rfl)
        (try simp only [Act.put, List.setIfInBounds_toArray, List.set_cons_zero, List.set_cons_succ])
        refine wpAnyH_done (by kernel_rfl) ?_ _
        go_wp2_with fail
        go_meet
        exact ⟨_, _, rfl, HM, HE⟩
  case rest =>
  obtain ⟨A5, c5, rfl, HO5, HE5⟩ := hcut
  obtain ⟨i0, hi, hz0, hz1, hz2⟩ := info_parts u8info
  obtain ⟨Z, hZ⟩ : ∃ Z : Array Value, Z = (cellsOf (List.replicate 218 0)).toArray := ⟨_, rfl⟩
  have hmk : ∀ u : World, (Instr.makeSlice 62 (.int .i64 218) (.int .i64 218)).run Tryz.prog u = .ok (.slice (some ⟨u.heap.size, 0, none⟩) 218 218) (u.alloc (.cells Z 5)) := fun u => by
    have h := run_make (P := Tryz.prog) u 62 5 i0 (.int .u8 0) Tryz.underlying62 hi hz0 .i64 .i64 218 218 (by omega) (Int.le_refl _) (by rw [hz2]; omega) (by omega)
    have e : madeCells #[.int .u8 0] 218 = Z := by
      rw [hZ]
      apply Array.toList_inj.1
      rw [toList_madeCells_one]
      generalize 218 = m
      simp [cellsOf, byteV]
    rw [← e]
    simpa [hz1, Value.cells] using h
  have hZR : ∀ u : World, Rd (u.alloc (.cells Z 5)) (some ⟨u.heap.size, 0, none⟩) 218 (List.replicate 218 0) := fun u => by
    have := Rd.marked u 5 (List.replicate 218 0) (0, 0)
    rw [hZ]
    rw [List.length_replicate] at this
    exact this
  have hcb := concat_body t r s z A5 (some ⟨wc.heap.size, 0, none⟩) A4 c5 218 c4 62 (wc.alloc (.cells Z 5)) ((Rd.of_own HO5.out).alloc _) (hZR wc) ((HO4.out.keeps HE5.out.1).alloc _) (own_cap HO5.out) (Nat.le_refl _) HC4.out
  rw [World.size_alloc] at hcb
  have HCB := kept hcb
  have HMK := kept hmk
  have hmk := HMK.out
  have HBC := kept (bel_to HE5.out.2 HB2.out)
  have HBZ := fun o => kept ((HBC.out.alloc HBC.out.size (.cells Z 5)).alloc (Nat.le_trans HBC.out.size (by simp)) o)
  clear hZ hZR hcb hi hz0 hz1 hz2
  go_wp2_with fail
  with_reducible refine HCB.out.mono ?_
  rintro e w6 ⟨A6, c6, rfl, hown, hb⟩
  have HB6 := kept (bel_to hb (HBZ _).out)
  have HSL := kept (seal_252 A6 c6 (bodyN t r s z) w6 (Rd.of_own hown) (own_cap hown) (HFO.out.below HB6.out))
  clear hown hb
  go_wp2_with fail
  with_reducible refine HSL.out.mono ?_
  rintro e w7 ⟨A7, c7, rfl, hown, hb⟩
  have HO7 := kept (own_mono hown HB6.out.size)
  have HB7 := kept (bel_to hb HB6.out)
  clear hown hb
  go_wp2
  go_ret2
  exact ⟨A7, c7, rfl, HO7.out, HB7.out⟩
theorem encode_m (m : Mt) (w : World) (ht : m.txn < 18446744073709551616) (hR : rightM m = true) (hF : Fours w) :
    Calls Tryz.prog 82 #[m.val] w fun e w' => ∃ A c, e = .returned (.tuple #[.slice A 256 c, .int .i64 0]) ∧ w'.ownsRow w.heap.size 5 1 (.slice A 256 c) 256 (cellsOf (sealed (bodyM m))) ∧ Below w.heap.size w w' := by
  obtain ⟨r, s, z, e, hr, hs, hz, hb⟩ := rightM_nat hR
  rw [hb]
  rw [e] at hR ⊢
  exact encode_nat m.txn r s z w ht hr hs hz hR hF
end Go.Proofs.YtdjcahhofonclaaGreatDoor
end
