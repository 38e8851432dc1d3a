/- Mf Md Mc -/
import Derived.Test.YtblbhhijddcbeaaGreatDoorBCt
import Derived.Test.YtblbhhijddcbeaaGreatDoorBHnd
import Derived.Deep.DeepCutAuto
import Derived.Deep.CutBlock
import Derived.Test.YtblbhhijddcbeaaGreatDoorBPh
section
namespace Go.Proofs.YtblbhhijddcbeaaGreatDoor
open Go.ChangeShapes Go.WideShapes Go.ChangeAt Go.RowKit
set_option linter.unusedVariables false
set_option linter.unusedSimpArgs false
set_option maxRecDepth 100000
set_option maxHeartbeats 16000000
abbrev litT : Array Value := #[.int .u8 84, .int .u8 69, .int .u8 82, .int .u8 82, .int .u8 1]
def mark5 (W : World) (g : Nat) : World := W.freeze ⟨g, 5, none⟩ 1
theorem mark5_size (W : World) (g : Nat) : (mark5 W g).heap.size = W.heap.size := by simp [mark5, World.freeze]
theorem mark5_cell (W : World) (g : Nat) (p : Addr) : (mark5 W g).cell? p = W.cell? p := by
 unfold mark5 World.freeze; simp only [Nat.one_ne_zero, if_false]; unfold World.cell?; simp only [Array.getElem?_modify]; by_cases h : g = p.block
 · subst h; rw [if_pos rfl]; cases W.heap[p.block]? with
   | none => rfl
   | some o => cases o <;> rfl
 · rw [if_neg h]
theorem mark5_keeps (W : World) (g : Nat) : Keeps W (mark5 W g) := ⟨Nat.le_of_eq (mark5_size W g).symm, fun p _ => mark5_cell W g p⟩
theorem mark5_below {B : Nat} (W : World) (g : Nat) (h : B ≤ g) : Below B W (mark5 W g) :=
 ⟨rfl, rfl, rfl, Nat.le_of_eq (mark5_size W g).symm, fun k hk => by
  show ((mark5 W g).heap)[k]? = W.heap[k]?; unfold mark5 World.freeze; simp only [Nat.one_ne_zero, if_false, Array.getElem?_modify]; rw [if_neg (by omega)]⟩
theorem conv_at (W : World) (g : Nat) (h : W.heap[g]? = some (.cells litT 5 (0, 0))) :
 (convert 46 46 (.slice (some ⟨g, 0, none⟩) 5 5)).run Tryz.prog W = .ok (.slice (some ⟨g, 0, none⟩) 5 5) (mark5 W g) := by
 have hsh : W.shape? g = some (5, 5) := by
  unfold World.shape?; rw [h]; rfl
 simp [convert, run_underlying (P := Tryz.prog) Tryz.underlying46, run_underlying (P := Tryz.prog) Tryz.underlying5, markStringish, hsh, mark5]
theorem lit_next {W w' : World} {g : Nat} (hl : W.heap[g]? = some (.cells litT 5 (0, 0))) (h : Below W.heap.size W w') : w'.heap[g]? = some (.cells litT 5 (0, 0)) :=
 (h.block _ (Array.getElem?_eq_some_iff.1 hl).1).trans hl
theorem lit_rd (X : World) : Rd (X.alloc (.cells litT 5)) (some ⟨X.heap.size, 0, none⟩) 5 [84, 69, 82, 82, 1] := Rd.marked X 5 [84, 69, 82, 82, 1] (0, 0)
section
variable {P : Program} {ops : Array Oper} {Q : Exit → Act → World → Prop} {md : Region.Mode} {S : World → Prop}
theorem hand_ready2 {fuel : Nat} {listed : Array Bool} {a : Act} {w : World} (i j : Nat) (hr : Region.ready md ops listed = [i, j]) (hwi : (ops[i]?).map (fun o => Region.wanted o (yielded ops a.tmps)) = some true) (hwj : (ops[j]?).map (fun o => Region.wanted o (yielded ops a.tmps)) = some true)
 (hi : ∀ o, ops[i]? = some o → ∀ K' : Act → World → Prop, Shut (∀ a w, S w → (S w → wpAnyH P md ops Q S fuel (listed.setIfInBounds i true) a w) → K' a w) → Oper.wp P o a w K' Q)
 (hj : ∀ o, ops[j]? = some o → ∀ K' : Act → World → Prop, Shut (∀ a w, S w → (S w → wpAnyH P md ops Q S fuel (listed.setIfInBounds j true) a w) → K' a w) → Oper.wp P o a w K' Q) : wpAnyH P md ops Q S (fuel + 1) listed a w := by
 refine wpAnyH_ready (rs := [i, j]) hr (by simp) ?_; cases hoi : ops[i]? with
 | none => rw [hoi] at hwi; cases hwi
 | some o =>
   cases hoj : ops[j]? with
   | none => rw [hoj] at hwj; cases hwj
   | some o' =>
     rw [hoi] at hwi; rw [hoj] at hwj; refine AllReadyH.cons hoi (fun K' hK => ?_) (AllReadyH.cons hoj (fun K' hK => ?_) AllReadyH.nil)
     · rw [if_pos (Option.some.inj hwi)]; exact hi o hoi K' hK
     · rw [if_pos (Option.some.inj hwj)]; exact hj o' hoj K' hK
end
theorem name_world {K : Act → World → Prop} {a : Act} {w : World} (h : ∀ W, W = w → K a W) : K a w := h w rfl
theorem lit_heap {X W : World} (h : W = X.alloc (.cells litT 5)) : W.heap[X.heap.size]? = some (.cells litT 5 (0, 0)) := by rw [h]; exact heap_alloc_new X _
def Acc (a W : World) (R : World → Prop) : Prop := Keeps a W ∧ Below a.heap.size a W ∧ ∀ X, Keeps W X → R X
theorem Acc.start (a : World) : Acc a a.drew (fun _ => True) := ⟨Keeps.drew _, (Below.refl _ _).drew, fun _ _ => trivial⟩
theorem Acc.rd {a W W' : World} {R : World → Prop} {A : Option Addr} {n c : Nat} {xs : List UInt8} (h : Acc a W R) (hb : Below W.heap.size W W') (hr : Rd W' A n xs) (hc : n ≤ c) : Acc a W' (fun X => R X ∧ Rd X A n xs ∧ n ≤ c) :=
 ⟨h.1.trans (Keeps.of_below hb), h.2.1.trans (hb.mono h.1.1), fun X hX => ⟨h.2.2 X ((Keeps.of_below hb).trans hX), hr.keeps hX, hc⟩⟩
theorem Acc.lit {a W W' : World} {R : World → Prop} (h : Acc a W R) (e : W' = W.alloc (.cells litT 5)) : Acc a W' (fun X => R X ∧ Rd X (some ⟨W.heap.size, 0, none⟩) 5 [84, 69, 82, 82, 1]) := by
 subst e; exact ⟨h.1.trans (Keeps.alloc _ _), h.2.1.alloc h.1.1 _, fun X hX => ⟨h.2.2 X ((Keeps.alloc _ _).trans hX), (lit_rd W).keeps hX⟩⟩
theorem Acc.mark {a W W' : World} {R : World → Prop} {g : Nat} (h : Acc a W R) (hg : a.heap.size ≤ g) (e : W' = mark5 W g) : Acc a W' R := by
 subst e; exact ⟨h.1.trans (mark5_keeps _ _), h.2.1.trans (mark5_below _ _ hg), fun X hX => h.2.2 X ((mark5_keeps _ _).trans hX)⟩
theorem Acc.fin {a W W' : World} {R : World → Prop} {o : Obj} (h : Acc a W R) (hb : Below (W.alloc o).heap.size (W.alloc o) W') : Keeps a W' ∧ Below a.heap.size a W' :=
 ⟨h.1.trans ((Keeps.alloc _ _).trans (Keeps.of_below hb)), (h.2.1.alloc h.1.1 o).trans (hb.mono (by have := h.1.1; simp; omega))⟩
theorem part_rd {w : World} {A : Option Addr} {n c : Nat} {xs : List UInt8} (h : Rd w A n xs) (hc : n ≤ c) : Rd w (Part.mk A c xs).at_ (Part.mk A c xs).xs.length (Part.mk A c xs).xs ∧ (Part.mk A c xs).xs.length ≤ (Part.mk A c xs).room := ⟨by have := h; rwa [← h.1] at this, by simpa [h.1] using hc⟩
theorem concat_head (t r s z : Nat) (A1 A2 A3 A4 A5 A6 : Option Addr) (c1 c2 c3 c4 c5 c6 : Nat) (ty : TypeId) (w : World) (h1 : Rd w A1 1 [9]) (h2 : Rd w A2 8 (be t 8)) (h3 : Rd w A3 5 [84, 69, 82, 82, 1]) (h4 : Rd w A4 4 (be r 4)) (h5 : Rd w A5 4 (be s 4)) (h6 : Rd w A6 4 (be z 4))
 (g1 : 1 ≤ c1) (g2 : 8 ≤ c2) (g3 : 5 ≤ c3) (g4 : 4 ≤ c4) (g5 : 4 ≤ c5) (g6 : 4 ≤ c6) :
 Calls Tryz.prog 122 #[.slice (some ⟨w.heap.size, 0, none⟩) 6 6] (w.alloc (.cells #[.slice A1 1 c1, .slice A2 8 c2, .slice A3 5 c3, .slice A4 4 c4, .slice A5 4 c5, .slice A6 4 c6] ty)) fun e w' => ∃ A' c', e = .returned (.slice A' 26 c') ∧ w'.ownsRow (w.heap.size + 1) 5 1 (.slice A' 26 c') 26 (cellsOf (headM t r s z)) ∧ Below (w.alloc (.cells #[.slice A1 1 c1, .slice A2 8 c2, .slice A3 5 c3, .slice A4 4 c4, .slice A5 4 c5, .slice A6 4 c6] ty)).heap.size (w.alloc (.cells #[.slice A1 1 c1, .slice A2 8 c2, .slice A3 5 c3, .slice A4 4 c4, .slice A5 4 c5, .slice A6 4 c6] ty)) w' := by
 have := concat_list [⟨A1, c1, [9]⟩, ⟨A2, c2, be t 8⟩, ⟨A3, c3, [84, 69, 82, 82, 1]⟩, ⟨A4, c4, be r 4⟩, ⟨A5, c5, be s 4⟩, ⟨A6, c6, be z 4⟩] ty (0, 0) 6 26 w (by
  intro p hp; simp only [List.mem_cons, List.not_mem_nil, or_false] at hp; rcases hp with rfl | rfl | rfl | rfl | rfl | rfl
  · exact part_rd h1 g1
  · exact part_rd h2 g2
  · exact part_rd h3 g3
  · exact part_rd h4 g4
  · exact part_rd h5 g5
  · exact part_rd h6 g6) (by simp) (headM t r s z) (by simp [headM, List.append_assoc]) (headM_length _ _ _ _) (by omega)
 simpa [Part.val, be_length] using this
theorem concat_body (t r s z : Nat) (A1 A2 A3 : Option Addr) (c1 c2 c3 : Nat) (ty : TypeId) (w : World) (h1 : Rd w A1 26 (headM t r s z)) (h2 : Rd w A2 218 (List.replicate 218 0)) (h3 : Rd w A3 8 (be t 8)) (g1 : 26 ≤ c1) (g2 : 218 ≤ c2) (g3 : 8 ≤ c3) :
 Calls Tryz.prog 122 #[.slice (some ⟨w.heap.size, 0, none⟩) 3 3] (w.alloc (.cells #[.slice A1 26 c1, .slice A2 218 c2, .slice A3 8 c3] ty)) fun e w' => ∃ A' c', e = .returned (.slice A' 252 c') ∧ w'.ownsRow (w.heap.size + 1) 5 1 (.slice A' 252 c') 252 (cellsOf (bodyN t r s z)) ∧ Below (w.alloc (.cells #[.slice A1 26 c1, .slice A2 218 c2, .slice A3 8 c3] ty)).heap.size (w.alloc (.cells #[.slice A1 26 c1, .slice A2 218 c2, .slice A3 8 c3] ty)) w' := by
 have h2l : (List.replicate 218 (0 : UInt8)).length = 218 := h2.1; have := concat_list [⟨A1, c1, headM t r s z⟩, ⟨A2, c2, List.replicate 218 0⟩, ⟨A3, c3, be t 8⟩] ty (0, 0) 3 252 w (by
  intro p hp; simp only [List.mem_cons, List.not_mem_nil, or_false] at hp; rcases hp with rfl | rfl | rfl
  · exact part_rd h1 g1
  · exact part_rd h2 g2
  · exact part_rd h3 g3) (by simp) (bodyN t r s z) (by unfold bodyN; generalize List.replicate 218 (0 : UInt8) = Z; simp) (bodyN_length _ _ _ _) (by omega)
 generalize List.replicate 218 (0 : UInt8) = Z at this h2l; simpa [Part.val, be_length, headM_length, h2l] using this
theorem seal_252 (A : Option Addr) (c : Nat) (xs : List UInt8) (w : World) (h : Rd w A 252 xs) (hc : 252 ≤ c) (hf : Fours w) :
 Calls Tryz.prog 124 #[.slice A 252 c] w fun e w' => ∃ A' c', e = .returned (.slice A' 256 c') ∧ w'.ownsRow w.heap.size 5 1 (.slice A' 256 c') 256 (cellsOf (sealed xs)) ∧ Below w.heap.size w w' := seal_any A 252 c xs w h hc (by omega) hf
theorem encode_m_wrong (m : Mt) (w : World) (hR : rightM m = false) :
 Calls Tryz.prog 76 #[m.val] w fun e w' => e = .returned (.tuple #[.slice none 0 0, .int .i64 4]) ∧ Below w.heap.size w w' := by
 have HR := fun w => kept (right_m m w)
 rw [hR] at HR; clear hR; obtain ⟨t, r, s, z⟩ := m; have hb0 : Below w.heap.size w (w.alloc (.cells #[.int .u64 (t : Int), .int .i64 r, .int .i64 s, .int .i64 z] 88)) := (Below.refl _ _).alloc (Nat.le_refl _) _; go_enter Tryz.func76, Tryz.ntmps76; go_wp2_with (first | (go_at_call 120; (with_reducible refine ((HR _).out).mono ?_); rintro e w1 ⟨rfl, hb1⟩; have HB1 := kept (bel_to hb1 hb0); clear hb1))
 go_ret2; exact ⟨rfl, HB1.out⟩
theorem encode_nat (t r s z : Nat) (w : World) (ht : t < 18446744073709551616) (hr : r ≤ 1024) (hs : s ≤ 1024) (hz : z ≤ 1024) (hR : rightM ⟨t, r, s, z⟩ = true) (hF : Fours w) :
 Calls Tryz.prog 76 #[.agg #[.int .u64 (t : Int), .int .i64 (r : Int), .int .i64 (s : Int), .int .i64 (z : Int)]] w fun e w' => ∃ A c, e = .returned (.tuple #[.slice A 256 c, .int .i64 0]) ∧ w'.ownsRow w.heap.size 5 1 (.slice A 256 c) 256 (cellsOf (sealed (bodyN t r s z))) ∧ Below w.heap.size w w' := by
 have HR := fun w => kept (right_m ⟨t, r, s, z⟩ w)
 rw [hR] at HR; have HN1 := fun w => kept (number1 w)
 have HN8 := fun w => kept (number8 t w ht)
 have HIr := fun w => kept (id_any r w hr)
 have HIs := fun w => kept (id_any s w hs)
 have HIz := fun w => kept (id_any z w hz)
 have HFO := kept hF; clear hR ht hr hs hz hF; have hb0 : Below w.heap.size w (w.alloc (.cells #[.int .u64 (t : Int), .int .i64 (r : Int), .int .i64 (s : Int), .int .i64 (z : Int)] 88)) := (Below.refl _ _).alloc (Nat.le_refl _) _; have HF0 := kept (fou_new w 88 t r s z); go_enter Tryz.func76, Tryz.ntmps76; go_wp2_with fail
 with_reducible refine (HR _).out.mono ?_
 rintro e w1 ⟨rfl, hb1⟩; have HF1 := kept (HF0.out.keeps (Keeps.of_below hb1)); obtain ⟨n0, n1, n2, n3⟩ := HF1.out; have HB1 := kept (bel_to hb1 hb0); clear hb1; go_wp2_with fail
 with_reducible refine (HN8 _).out.mono ?_
 rintro e w2 ⟨A4, c4, rfl, hown, hb2⟩; have HF2 := kept (HF1.out.keeps (Keeps.of_below hb2)); have HO4 := kept (Rd.of_own hown); have HC4 := kept (own_cap hown); have HB2 := kept (bel_to hb2 HB1.out); clear hown hb2 n0 n1 n2 n3; go_upto_region 4 with fail
 go_cut [5] (fun s5 wx => ∃ A c, s5 = .slice A 26 c ∧ Hid (wx.ownsRow w2.heap.size 5 1 (.slice A 26 c) 26 (cellsOf (headM t r s z))) ∧ Hid (Keeps w2 wx ∧ Below w2.heap.size w2 wx))
 case first =>
  refine wp_region_held_drew (S := fun W' => Fou W' w.heap.size (t : Int) (r : Int) (s : Int) (z : Int)) (by kernel_rfl) ?_ (fun hHeld => ?_)
  · (try dsimp only); exact HF2.out.keeps (Keeps.drew _)
  refine hT 1 (some 14) ?_; refine hT 4 (some 17) ?_; refine hT 5 (some 18) ?_; refine hT 7 (some 20) ?_; refine hT 8 (some 21) ?_; refine hT 10 (some 23) ?_; refine hT 11 (some 24) ?_; have HA0 := kept (Acc.start w2); refine hV 0 2 (fun K hK => ?_) (fun K hK => ?_)
  · skip; go_simp; go_at_call 121; with_reducible refine (HN1 _).out.mono ?_
    rintro e W1 ⟨A1, c1, rfl, hown, hb⟩; have HA1 := kept (HA0.out.rd hb (Rd.of_own hown) (own_cap hown)); clear hown hb; (try go_wp2_with fail); refine hK.out _ _ (HF2.out.keeps HA1.out.1) (fun hHeld => ?_); clear hK K; (try simp only [Act.put, hA, h0, h1]); refine hV 2 6 (fun K hK => ?_) (fun K hK => ?_)
    · skip; go_simp; refine name_world (fun W2 hW => ?_); have HA2 := kept (HA1.out.lit hW); have HL2 : Hid (W2.heap[W1.heap.size]? = some (.cells litT 5 (0, 0))) := kept (lit_heap (X := W1) hW); have HG := kept (HA1.out.1.1); clear hW; refine hK.out _ _ (HF2.out.keeps HA2.out.1) (fun hHeld => ?_); clear hK K; (try simp only [Act.put, hA, h0, h1]); refine hV 3 6 (fun K hK => ?_) (fun K hK => ?_)
      · skip; have kc := conv_at W2 (W1.heap.size) HL2.out; go_simp; refine name_world (fun W3 hW => ?_); have HA3 := kept (HA2.out.mark HG.out hW); clear hW kc; refine hK.out _ _ (HF2.out.keeps HA3.out.1) (fun hHeld => ?_); clear hK K; (try simp only [Act.put, hA, h0, h1]); refine hR 6 (fun K hK => ?_); go_simp; go_at_call 123; with_reducible refine (HIr _).out.mono ?_
        rintro e W4 ⟨Ar, cr, rfl, hown, hb⟩; have HA4 := kept (HA3.out.rd hb (Rd.of_own hown) (own_cap hown)); clear hown hb; (try go_wp2_with fail); refine hK.out _ _ (HF2.out.keeps HA4.out.1) (fun hHeld => ?_); clear hK K; (try simp only [Act.put, hA, h0, h1]); refine hR 9 (fun K hK => ?_); go_simp; go_at_call 123; with_reducible refine (HIs _).out.mono ?_
        rintro e W5 ⟨As, cs, rfl, hown, hb⟩; have HA5 := kept (HA4.out.rd hb (Rd.of_own hown) (own_cap hown)); clear hown hb; (try go_wp2_with fail); refine hK.out _ _ (HF2.out.keeps HA5.out.1) (fun hHeld => ?_); clear hK K; (try simp only [Act.put, hA, h0, h1]); refine hR 12 (fun K hK => ?_); go_simp; go_at_call 123; with_reducible refine (HIz _).out.mono ?_
        rintro e W6 ⟨Az, cz, rfl, hown, hb⟩; have HA6 := kept (HA5.out.rd hb (Rd.of_own hown) (own_cap hown)); clear hown hb; (try go_wp2_with fail); refine hK.out _ _ (HF2.out.keeps HA6.out.1) (fun hHeld => ?_); clear hK K; (try simp only [Act.put, hA, h0, h1]); obtain ⟨⟨⟨⟨⟨-, R1, G1⟩, RL⟩, Rr, Gr⟩, Rs, Gs⟩, Rz, Gz⟩ := HA6.out.2.2 _ (Keeps.refl _); have RL : Rd W6 (some ⟨W1.heap.size, 0, none⟩) 5 [84, 69, 82, 82, 1] := RL; have R4 := HO4.out.keeps HA6.out.1; refine hR 13 (fun K hK => ?_); go_simp; refine hK.out _ _ (HF2.out.keeps (HA6.out.1.trans (Keeps.alloc _ _))) (fun hHeld => ?_); clear hK K; (try simp only [Act.put, hA, h0, h1]); refine hR 14 (fun K hK => ?_); go_simp; go_at_call 122; with_reducible refine (concat_head t r s z _ _ _ _ _ _ _ _ _ _ _ _ _ _ R1 R4 RL Rr Rs Rz G1 HC4.out (Nat.le_refl 5) Gr Gs Gz).mono ?_
        rintro e w9 ⟨A9, c9, rfl, hown, hb⟩; have HE := kept (HA6.out.fin hb); have HM : Hid (w9.ownsRow w2.heap.size 5 1 (.slice A9 26 c9) 26 (cellsOf (headM t r s z))) := kept (own_mono hown (Nat.le_succ_of_le HA6.out.1.1)); clear hown hb; (try go_wp2_with fail); refine hK.out _ _ (HF2.out.keeps HE.out.1) (fun hHeld => ?_); clear hK K; (try simp only [Act.put, hA, h0, h1]); refine hT 15 (some 5) ?_; refine wpAnyH_done (by kernel_rfl) ?_ _; go_wp2_with fail
        go_meet
        exact ⟨_, _, rfl, HM, HE⟩
      · skip; go_simp; go_at_call 123; with_reducible refine (HIr _).out.mono ?_
        rintro e W7 ⟨Ar, cr, rfl, hown, hb⟩; have HA7 := kept (HA2.out.rd hb (Rd.of_own hown) (own_cap hown)); have HL7 := kept (lit_next HL2.out hb); clear hown hb; (try go_wp2_with fail); refine hK.out _ _ (HF2.out.keeps HA7.out.1) (fun hHeld => ?_); clear hK K; (try simp only [Act.put, hA, h0, h1]); refine hV 3 9 (fun K hK => ?_) (fun K hK => ?_)
        · skip; have kc := conv_at W7 (W1.heap.size) HL7.out; go_simp; refine name_world (fun W8 hW => ?_); have HA8 := kept (HA7.out.mark HG.out hW); clear hW kc; refine hK.out _ _ (HF2.out.keeps HA8.out.1) (fun hHeld => ?_); clear hK K; (try simp only [Act.put, hA, h0, h1]); refine hR 9 (fun K hK => ?_); go_simp; go_at_call 123; with_reducible refine (HIs _).out.mono ?_
          rintro e W9 ⟨As, cs, rfl, hown, hb⟩; have HA9 := kept (HA8.out.rd hb (Rd.of_own hown) (own_cap hown)); clear hown hb; (try go_wp2_with fail); refine hK.out _ _ (HF2.out.keeps HA9.out.1) (fun hHeld => ?_); clear hK K; (try simp only [Act.put, hA, h0, h1]); refine hR 12 (fun K hK => ?_); go_simp; go_at_call 123; with_reducible refine (HIz _).out.mono ?_
          rintro e W10 ⟨Az, cz, rfl, hown, hb⟩; have HA10 := kept (HA9.out.rd hb (Rd.of_own hown) (own_cap hown)); clear hown hb; (try go_wp2_with fail); refine hK.out _ _ (HF2.out.keeps HA10.out.1) (fun hHeld => ?_); clear hK K; (try simp only [Act.put, hA, h0, h1]); obtain ⟨⟨⟨⟨⟨-, R1, G1⟩, RL⟩, Rr, Gr⟩, Rs, Gs⟩, Rz, Gz⟩ := HA10.out.2.2 _ (Keeps.refl _); have RL : Rd W10 (some ⟨W1.heap.size, 0, none⟩) 5 [84, 69, 82, 82, 1] := RL; have R4 := HO4.out.keeps HA10.out.1; refine hR 13 (fun K hK => ?_); go_simp; refine hK.out _ _ (HF2.out.keeps (HA10.out.1.trans (Keeps.alloc _ _))) (fun hHeld => ?_); clear hK K; (try simp only [Act.put, hA, h0, h1]); refine hR 14 (fun K hK => ?_); go_simp; go_at_call 122; with_reducible refine (concat_head t r s z _ _ _ _ _ _ _ _ _ _ _ _ _ _ R1 R4 RL Rr Rs Rz G1 HC4.out (Nat.le_refl 5) Gr Gs Gz).mono ?_
          rintro e w9 ⟨A9, c9, rfl, hown, hb⟩; have HE := kept (HA10.out.fin hb); have HM : Hid (w9.ownsRow w2.heap.size 5 1 (.slice A9 26 c9) 26 (cellsOf (headM t r s z))) := kept (own_mono hown (Nat.le_succ_of_le HA10.out.1.1)); clear hown hb; (try go_wp2_with fail); refine hK.out _ _ (HF2.out.keeps HE.out.1) (fun hHeld => ?_); clear hK K; (try simp only [Act.put, hA, h0, h1]); refine hT 15 (some 5) ?_; refine wpAnyH_done (by kernel_rfl) ?_ _; go_wp2_with fail
          go_meet
          exact ⟨_, _, rfl, HM, HE⟩
        · skip; go_simp; go_at_call 123; with_reducible refine (HIs _).out.mono ?_
          rintro e W11 ⟨As, cs, rfl, hown, hb⟩; have HA11 := kept (HA7.out.rd hb (Rd.of_own hown) (own_cap hown)); have HL11 := kept (lit_next HL7.out hb); clear hown hb; (try go_wp2_with fail); refine hK.out _ _ (HF2.out.keeps HA11.out.1) (fun hHeld => ?_); clear hK K; (try simp only [Act.put, hA, h0, h1]); refine hV 3 12 (fun K hK => ?_) (fun K hK => ?_)
          · skip; have kc := conv_at W11 (W1.heap.size) HL11.out; go_simp; refine name_world (fun W12 hW => ?_); have HA12 := kept (HA11.out.mark HG.out hW); clear hW kc; refine hK.out _ _ (HF2.out.keeps HA12.out.1) (fun hHeld => ?_); clear hK K; (try simp only [Act.put, hA, h0, h1]); refine hR 12 (fun K hK => ?_); go_simp; go_at_call 123; with_reducible refine (HIz _).out.mono ?_
            rintro e W13 ⟨Az, cz, rfl, hown, hb⟩; have HA13 := kept (HA12.out.rd hb (Rd.of_own hown) (own_cap hown)); clear hown hb; (try go_wp2_with fail); refine hK.out _ _ (HF2.out.keeps HA13.out.1) (fun hHeld => ?_); clear hK K; (try simp only [Act.put, hA, h0, h1]); obtain ⟨⟨⟨⟨⟨-, R1, G1⟩, RL⟩, Rr, Gr⟩, Rs, Gs⟩, Rz, Gz⟩ := HA13.out.2.2 _ (Keeps.refl _); have RL : Rd W13 (some ⟨W1.heap.size, 0, none⟩) 5 [84, 69, 82, 82, 1] := RL; have R4 := HO4.out.keeps HA13.out.1; refine hR 13 (fun K hK => ?_); go_simp; refine hK.out _ _ (HF2.out.keeps (HA13.out.1.trans (Keeps.alloc _ _))) (fun hHeld => ?_); clear hK K; (try simp only [Act.put, hA, h0, h1]); refine hR 14 (fun K hK => ?_); go_simp; go_at_call 122; with_reducible refine (concat_head t r s z _ _ _ _ _ _ _ _ _ _ _ _ _ _ R1 R4 RL Rr Rs Rz G1 HC4.out (Nat.le_refl 5) Gr Gs Gz).mono ?_
            rintro e w9 ⟨A9, c9, rfl, hown, hb⟩; have HE := kept (HA13.out.fin hb); have HM : Hid (w9.ownsRow w2.heap.size 5 1 (.slice A9 26 c9) 26 (cellsOf (headM t r s z))) := kept (own_mono hown (Nat.le_succ_of_le HA13.out.1.1)); clear hown hb; (try go_wp2_with fail); refine hK.out _ _ (HF2.out.keeps HE.out.1) (fun hHeld => ?_); clear hK K; (try simp only [Act.put, hA, h0, h1]); refine hT 15 (some 5) ?_; refine wpAnyH_done (by kernel_rfl) ?_ _; go_wp2_with fail
            go_meet
            exact ⟨_, _, rfl, HM, HE⟩
          · skip; go_simp; go_at_call 123; with_reducible refine (HIz _).out.mono ?_
            rintro e W14 ⟨Az, cz, rfl, hown, hb⟩; have HA14 := kept (HA11.out.rd hb (Rd.of_own hown) (own_cap hown)); have HL14 := kept (lit_next HL11.out hb); clear hown hb; (try go_wp2_with fail); refine hK.out _ _ (HF2.out.keeps HA14.out.1) (fun hHeld => ?_); clear hK K; (try simp only [Act.put, hA, h0, h1]); refine hR 3 (fun K hK => ?_); have kc := conv_at W14 (W1.heap.size) HL14.out; go_simp; refine name_world (fun W15 hW => ?_); have HA15 := kept (HA14.out.mark HG.out hW); clear hW kc; refine hK.out _ _ (HF2.out.keeps HA15.out.1) (fun hHeld => ?_); clear hK K; (try simp only [Act.put, hA, h0, h1]); obtain ⟨⟨⟨⟨⟨-, R1, G1⟩, RL⟩, Rr, Gr⟩, Rs, Gs⟩, Rz, Gz⟩ := HA15.out.2.2 _ (Keeps.refl _); have RL : Rd W15 (some ⟨W1.heap.size, 0, none⟩) 5 [84, 69, 82, 82, 1] := RL; have R4 := HO4.out.keeps HA15.out.1; refine hR 13 (fun K hK => ?_); go_simp; refine hK.out _ _ (HF2.out.keeps (HA15.out.1.trans (Keeps.alloc _ _))) (fun hHeld => ?_); clear hK K; (try simp only [Act.put, hA, h0, h1]); refine hR 14 (fun K hK => ?_); go_simp; go_at_call 122; with_reducible refine (concat_head t r s z _ _ _ _ _ _ _ _ _ _ _ _ _ _ R1 R4 RL Rr Rs Rz G1 HC4.out (Nat.le_refl 5) Gr Gs Gz).mono ?_
            rintro e w9 ⟨A9, c9, rfl, hown, hb⟩; have HE := kept (HA15.out.fin hb); have HM : Hid (w9.ownsRow w2.heap.size 5 1 (.slice A9 26 c9) 26 (cellsOf (headM t r s z))) := kept (own_mono hown (Nat.le_succ_of_le HA15.out.1.1)); clear hown hb; (try go_wp2_with fail); refine hK.out _ _ (HF2.out.keeps HE.out.1) (fun hHeld => ?_); clear hK K; (try simp only [Act.put, hA, h0, h1]); refine hT 15 (some 5) ?_; refine wpAnyH_done (by kernel_rfl) ?_ _; go_wp2_with fail
            go_meet
            exact ⟨_, _, rfl, HM, HE⟩
    · skip; go_simp; go_at_call 123; with_reducible refine (HIr _).out.mono ?_
      rintro e W16 ⟨Ar, cr, rfl, hown, hb⟩; have HA16 := kept (HA1.out.rd hb (Rd.of_own hown) (own_cap hown)); clear hown hb; (try go_wp2_with fail); refine hK.out _ _ (HF2.out.keeps HA16.out.1) (fun hHeld => ?_); clear hK K; (try simp only [Act.put, hA, h0, h1]); refine hV 2 9 (fun K hK => ?_) (fun K hK => ?_)
      · skip; go_simp; refine name_world (fun W17 hW => ?_); have HA17 := kept (HA16.out.lit hW); have HL17 : Hid (W17.heap[W16.heap.size]? = some (.cells litT 5 (0, 0))) := kept (lit_heap (X := W16) hW); have HG := kept (HA16.out.1.1); clear hW; refine hK.out _ _ (HF2.out.keeps HA17.out.1) (fun hHeld => ?_); clear hK K; (try simp only [Act.put, hA, h0, h1]); refine hV 3 9 (fun K hK => ?_) (fun K hK => ?_)
        · skip; have kc := conv_at W17 (W16.heap.size) HL17.out; go_simp; refine name_world (fun W18 hW => ?_); have HA18 := kept (HA17.out.mark HG.out hW); clear hW kc; refine hK.out _ _ (HF2.out.keeps HA18.out.1) (fun hHeld => ?_); clear hK K; (try simp only [Act.put, hA, h0, h1]); refine hR 9 (fun K hK => ?_); go_simp; go_at_call 123; with_reducible refine (HIs _).out.mono ?_
          rintro e W19 ⟨As, cs, rfl, hown, hb⟩; have HA19 := kept (HA18.out.rd hb (Rd.of_own hown) (own_cap hown)); clear hown hb; (try go_wp2_with fail); refine hK.out _ _ (HF2.out.keeps HA19.out.1) (fun hHeld => ?_); clear hK K; (try simp only [Act.put, hA, h0, h1]); refine hR 12 (fun K hK => ?_); go_simp; go_at_call 123; with_reducible refine (HIz _).out.mono ?_
          rintro e W20 ⟨Az, cz, rfl, hown, hb⟩; have HA20 := kept (HA19.out.rd hb (Rd.of_own hown) (own_cap hown)); clear hown hb; (try go_wp2_with fail); refine hK.out _ _ (HF2.out.keeps HA20.out.1) (fun hHeld => ?_); clear hK K; (try simp only [Act.put, hA, h0, h1]); obtain ⟨⟨⟨⟨⟨-, R1, G1⟩, Rr, Gr⟩, RL⟩, Rs, Gs⟩, Rz, Gz⟩ := HA20.out.2.2 _ (Keeps.refl _); have RL : Rd W20 (some ⟨W16.heap.size, 0, none⟩) 5 [84, 69, 82, 82, 1] := RL; have R4 := HO4.out.keeps HA20.out.1; refine hR 13 (fun K hK => ?_); go_simp; refine hK.out _ _ (HF2.out.keeps (HA20.out.1.trans (Keeps.alloc _ _))) (fun hHeld => ?_); clear hK K; (try simp only [Act.put, hA, h0, h1]); refine hR 14 (fun K hK => ?_); go_simp; go_at_call 122; with_reducible refine (concat_head t r s z _ _ _ _ _ _ _ _ _ _ _ _ _ _ R1 R4 RL Rr Rs Rz G1 HC4.out (Nat.le_refl 5) Gr Gs Gz).mono ?_
          rintro e w9 ⟨A9, c9, rfl, hown, hb⟩; have HE := kept (HA20.out.fin hb); have HM : Hid (w9.ownsRow w2.heap.size 5 1 (.slice A9 26 c9) 26 (cellsOf (headM t r s z))) := kept (own_mono hown (Nat.le_succ_of_le HA20.out.1.1)); clear hown hb; (try go_wp2_with fail); refine hK.out _ _ (HF2.out.keeps HE.out.1) (fun hHeld => ?_); clear hK K; (try simp only [Act.put, hA, h0, h1]); refine hT 15 (some 5) ?_; refine wpAnyH_done (by kernel_rfl) ?_ _; go_wp2_with fail
          go_meet
          exact ⟨_, _, rfl, HM, HE⟩
        · skip; go_simp; go_at_call 123; with_reducible refine (HIs _).out.mono ?_
          rintro e W21 ⟨As, cs, rfl, hown, hb⟩; have HA21 := kept (HA17.out.rd hb (Rd.of_own hown) (own_cap hown)); have HL21 := kept (lit_next HL17.out hb); clear hown hb; (try go_wp2_with fail); refine hK.out _ _ (HF2.out.keeps HA21.out.1) (fun hHeld => ?_); clear hK K; (try simp only [Act.put, hA, h0, h1]); refine hV 3 12 (fun K hK => ?_) (fun K hK => ?_)
          · skip; have kc := conv_at W21 (W16.heap.size) HL21.out; go_simp; refine name_world (fun W22 hW => ?_); have HA22 := kept (HA21.out.mark HG.out hW); clear hW kc; refine hK.out _ _ (HF2.out.keeps HA22.out.1) (fun hHeld => ?_); clear hK K; (try simp only [Act.put, hA, h0, h1]); refine hR 12 (fun K hK => ?_); go_simp; go_at_call 123; with_reducible refine (HIz _).out.mono ?_
            rintro e W23 ⟨Az, cz, rfl, hown, hb⟩; have HA23 := kept (HA22.out.rd hb (Rd.of_own hown) (own_cap hown)); clear hown hb; (try go_wp2_with fail); refine hK.out _ _ (HF2.out.keeps HA23.out.1) (fun hHeld => ?_); clear hK K; (try simp only [Act.put, hA, h0, h1]); obtain ⟨⟨⟨⟨⟨-, R1, G1⟩, Rr, Gr⟩, RL⟩, Rs, Gs⟩, Rz, Gz⟩ := HA23.out.2.2 _ (Keeps.refl _); have RL : Rd W23 (some ⟨W16.heap.size, 0, none⟩) 5 [84, 69, 82, 82, 1] := RL; have R4 := HO4.out.keeps HA23.out.1; refine hR 13 (fun K hK => ?_); go_simp; refine hK.out _ _ (HF2.out.keeps (HA23.out.1.trans (Keeps.alloc _ _))) (fun hHeld => ?_); clear hK K; (try simp only [Act.put, hA, h0, h1]); refine hR 14 (fun K hK => ?_); go_simp; go_at_call 122; with_reducible refine (concat_head t r s z _ _ _ _ _ _ _ _ _ _ _ _ _ _ R1 R4 RL Rr Rs Rz G1 HC4.out (Nat.le_refl 5) Gr Gs Gz).mono ?_
            rintro e w9 ⟨A9, c9, rfl, hown, hb⟩; have HE := kept (HA23.out.fin hb); have HM : Hid (w9.ownsRow w2.heap.size 5 1 (.slice A9 26 c9) 26 (cellsOf (headM t r s z))) := kept (own_mono hown (Nat.le_succ_of_le HA23.out.1.1)); clear hown hb; (try go_wp2_with fail); refine hK.out _ _ (HF2.out.keeps HE.out.1) (fun hHeld => ?_); clear hK K; (try simp only [Act.put, hA, h0, h1]); refine hT 15 (some 5) ?_; refine wpAnyH_done (by kernel_rfl) ?_ _; go_wp2_with fail
            go_meet
            exact ⟨_, _, rfl, HM, HE⟩
          · skip; go_simp; go_at_call 123; with_reducible refine (HIz _).out.mono ?_
            rintro e W24 ⟨Az, cz, rfl, hown, hb⟩; have HA24 := kept (HA21.out.rd hb (Rd.of_own hown) (own_cap hown)); have HL24 := kept (lit_next HL21.out hb); clear hown hb; (try go_wp2_with fail); refine hK.out _ _ (HF2.out.keeps HA24.out.1) (fun hHeld => ?_); clear hK K; (try simp only [Act.put, hA, h0, h1]); refine hR 3 (fun K hK => ?_); have kc := conv_at W24 (W16.heap.size) HL24.out; go_simp; refine name_world (fun W25 hW => ?_); have HA25 := kept (HA24.out.mark HG.out hW); clear hW kc; refine hK.out _ _ (HF2.out.keeps HA25.out.1) (fun hHeld => ?_); clear hK K; (try simp only [Act.put, hA, h0, h1]); obtain ⟨⟨⟨⟨⟨-, R1, G1⟩, Rr, Gr⟩, RL⟩, Rs, Gs⟩, Rz, Gz⟩ := HA25.out.2.2 _ (Keeps.refl _); have RL : Rd W25 (some ⟨W16.heap.size, 0, none⟩) 5 [84, 69, 82, 82, 1] := RL; have R4 := HO4.out.keeps HA25.out.1; refine hR 13 (fun K hK => ?_); go_simp; refine hK.out _ _ (HF2.out.keeps (HA25.out.1.trans (Keeps.alloc _ _))) (fun hHeld => ?_); clear hK K; (try simp only [Act.put, hA, h0, h1]); refine hR 14 (fun K hK => ?_); go_simp; go_at_call 122; with_reducible refine (concat_head t r s z _ _ _ _ _ _ _ _ _ _ _ _ _ _ R1 R4 RL Rr Rs Rz G1 HC4.out (Nat.le_refl 5) Gr Gs Gz).mono ?_
            rintro e w9 ⟨A9, c9, rfl, hown, hb⟩; have HE := kept (HA25.out.fin hb); have HM : Hid (w9.ownsRow w2.heap.size 5 1 (.slice A9 26 c9) 26 (cellsOf (headM t r s z))) := kept (own_mono hown (Nat.le_succ_of_le HA25.out.1.1)); clear hown hb; (try go_wp2_with fail); refine hK.out _ _ (HF2.out.keeps HE.out.1) (fun hHeld => ?_); clear hK K; (try simp only [Act.put, hA, h0, h1]); refine hT 15 (some 5) ?_; refine wpAnyH_done (by kernel_rfl) ?_ _; go_wp2_with fail
            go_meet
            exact ⟨_, _, rfl, HM, HE⟩
      · skip; go_simp; go_at_call 123; with_reducible refine (HIs _).out.mono ?_
        rintro e W26 ⟨As, cs, rfl, hown, hb⟩; have HA26 := kept (HA16.out.rd hb (Rd.of_own hown) (own_cap hown)); clear hown hb; (try go_wp2_with fail); refine hK.out _ _ (HF2.out.keeps HA26.out.1) (fun hHeld => ?_); clear hK K; (try simp only [Act.put, hA, h0, h1]); refine hV 2 12 (fun K hK => ?_) (fun K hK => ?_)
        · skip; go_simp; refine name_world (fun W27 hW => ?_); have HA27 := kept (HA26.out.lit hW); have HL27 : Hid (W27.heap[W26.heap.size]? = some (.cells litT 5 (0, 0))) := kept (lit_heap (X := W26) hW); have HG := kept (HA26.out.1.1); clear hW; refine hK.out _ _ (HF2.out.keeps HA27.out.1) (fun hHeld => ?_); clear hK K; (try simp only [Act.put, hA, h0, h1]); refine hV 3 12 (fun K hK => ?_) (fun K hK => ?_)
          · skip; have kc := conv_at W27 (W26.heap.size) HL27.out; go_simp; refine name_world (fun W28 hW => ?_); have HA28 := kept (HA27.out.mark HG.out hW); clear hW kc; refine hK.out _ _ (HF2.out.keeps HA28.out.1) (fun hHeld => ?_); clear hK K; (try simp only [Act.put, hA, h0, h1]); refine hR 12 (fun K hK => ?_); go_simp; go_at_call 123; with_reducible refine (HIz _).out.mono ?_
            rintro e W29 ⟨Az, cz, rfl, hown, hb⟩; have HA29 := kept (HA28.out.rd hb (Rd.of_own hown) (own_cap hown)); clear hown hb; (try go_wp2_with fail); refine hK.out _ _ (HF2.out.keeps HA29.out.1) (fun hHeld => ?_); clear hK K; (try simp only [Act.put, hA, h0, h1]); obtain ⟨⟨⟨⟨⟨-, R1, G1⟩, Rr, Gr⟩, Rs, Gs⟩, RL⟩, Rz, Gz⟩ := HA29.out.2.2 _ (Keeps.refl _); have RL : Rd W29 (some ⟨W26.heap.size, 0, none⟩) 5 [84, 69, 82, 82, 1] := RL; have R4 := HO4.out.keeps HA29.out.1; refine hR 13 (fun K hK => ?_); go_simp; refine hK.out _ _ (HF2.out.keeps (HA29.out.1.trans (Keeps.alloc _ _))) (fun hHeld => ?_); clear hK K; (try simp only [Act.put, hA, h0, h1]); refine hR 14 (fun K hK => ?_); go_simp; go_at_call 122; with_reducible refine (concat_head t r s z _ _ _ _ _ _ _ _ _ _ _ _ _ _ R1 R4 RL Rr Rs Rz G1 HC4.out (Nat.le_refl 5) Gr Gs Gz).mono ?_
            rintro e w9 ⟨A9, c9, rfl, hown, hb⟩; have HE := kept (HA29.out.fin hb); have HM : Hid (w9.ownsRow w2.heap.size 5 1 (.slice A9 26 c9) 26 (cellsOf (headM t r s z))) := kept (own_mono hown (Nat.le_succ_of_le HA29.out.1.1)); clear hown hb; (try go_wp2_with fail); refine hK.out _ _ (HF2.out.keeps HE.out.1) (fun hHeld => ?_); clear hK K; (try simp only [Act.put, hA, h0, h1]); refine hT 15 (some 5) ?_; refine wpAnyH_done (by kernel_rfl) ?_ _; go_wp2_with fail
            go_meet
            exact ⟨_, _, rfl, HM, HE⟩
          · skip; go_simp; go_at_call 123; with_reducible refine (HIz _).out.mono ?_
            rintro e W30 ⟨Az, cz, rfl, hown, hb⟩; have HA30 := kept (HA27.out.rd hb (Rd.of_own hown) (own_cap hown)); have HL30 := kept (lit_next HL27.out hb); clear hown hb; (try go_wp2_with fail); refine hK.out _ _ (HF2.out.keeps HA30.out.1) (fun hHeld => ?_); clear hK K; (try simp only [Act.put, hA, h0, h1]); refine hR 3 (fun K hK => ?_); have kc := conv_at W30 (W26.heap.size) HL30.out; go_simp; refine name_world (fun W31 hW => ?_); have HA31 := kept (HA30.out.mark HG.out hW); clear hW kc; refine hK.out _ _ (HF2.out.keeps HA31.out.1) (fun hHeld => ?_); clear hK K; (try simp only [Act.put, hA, h0, h1]); obtain ⟨⟨⟨⟨⟨-, R1, G1⟩, Rr, Gr⟩, Rs, Gs⟩, RL⟩, Rz, Gz⟩ := HA31.out.2.2 _ (Keeps.refl _); have RL : Rd W31 (some ⟨W26.heap.size, 0, none⟩) 5 [84, 69, 82, 82, 1] := RL; have R4 := HO4.out.keeps HA31.out.1; refine hR 13 (fun K hK => ?_); go_simp; refine hK.out _ _ (HF2.out.keeps (HA31.out.1.trans (Keeps.alloc _ _))) (fun hHeld => ?_); clear hK K; (try simp only [Act.put, hA, h0, h1]); refine hR 14 (fun K hK => ?_); go_simp; go_at_call 122; with_reducible refine (concat_head t r s z _ _ _ _ _ _ _ _ _ _ _ _ _ _ R1 R4 RL Rr Rs Rz G1 HC4.out (Nat.le_refl 5) Gr Gs Gz).mono ?_
            rintro e w9 ⟨A9, c9, rfl, hown, hb⟩; have HE := kept (HA31.out.fin hb); have HM : Hid (w9.ownsRow w2.heap.size 5 1 (.slice A9 26 c9) 26 (cellsOf (headM t r s z))) := kept (own_mono hown (Nat.le_succ_of_le HA31.out.1.1)); clear hown hb; (try go_wp2_with fail); refine hK.out _ _ (HF2.out.keeps HE.out.1) (fun hHeld => ?_); clear hK K; (try simp only [Act.put, hA, h0, h1]); refine hT 15 (some 5) ?_; refine wpAnyH_done (by kernel_rfl) ?_ _; go_wp2_with fail
            go_meet
            exact ⟨_, _, rfl, HM, HE⟩
        · skip; go_simp; go_at_call 123; with_reducible refine (HIz _).out.mono ?_
          rintro e W32 ⟨Az, cz, rfl, hown, hb⟩; have HA32 := kept (HA26.out.rd hb (Rd.of_own hown) (own_cap hown)); clear hown hb; (try go_wp2_with fail); refine hK.out _ _ (HF2.out.keeps HA32.out.1) (fun hHeld => ?_); clear hK K; (try simp only [Act.put, hA, h0, h1]); refine hR 2 (fun K hK => ?_); go_simp; refine name_world (fun W33 hW => ?_); have HA33 := kept (HA32.out.lit hW); have HL33 : Hid (W33.heap[W32.heap.size]? = some (.cells litT 5 (0, 0))) := kept (lit_heap (X := W32) hW); have HG := kept (HA32.out.1.1); clear hW; refine hK.out _ _ (HF2.out.keeps HA33.out.1) (fun hHeld => ?_); clear hK K; (try simp only [Act.put, hA, h0, h1]); refine hR 3 (fun K hK => ?_); have kc := conv_at W33 (W32.heap.size) HL33.out; go_simp; refine name_world (fun W34 hW => ?_); have HA34 := kept (HA33.out.mark HG.out hW); clear hW kc; refine hK.out _ _ (HF2.out.keeps HA34.out.1) (fun hHeld => ?_); clear hK K; (try simp only [Act.put, hA, h0, h1]); obtain ⟨⟨⟨⟨⟨-, R1, G1⟩, Rr, Gr⟩, Rs, Gs⟩, Rz, Gz⟩, RL⟩ := HA34.out.2.2 _ (Keeps.refl _); have RL : Rd W34 (some ⟨W32.heap.size, 0, none⟩) 5 [84, 69, 82, 82, 1] := RL; have R4 := HO4.out.keeps HA34.out.1; refine hR 13 (fun K hK => ?_); go_simp; refine hK.out _ _ (HF2.out.keeps (HA34.out.1.trans (Keeps.alloc _ _))) (fun hHeld => ?_); clear hK K; (try simp only [Act.put, hA, h0, h1]); refine hR 14 (fun K hK => ?_); go_simp; go_at_call 122; with_reducible refine (concat_head t r s z _ _ _ _ _ _ _ _ _ _ _ _ _ _ R1 R4 RL Rr Rs Rz G1 HC4.out (Nat.le_refl 5) Gr Gs Gz).mono ?_
          rintro e w9 ⟨A9, c9, rfl, hown, hb⟩; have HE := kept (HA34.out.fin hb); have HM : Hid (w9.ownsRow w2.heap.size 5 1 (.slice A9 26 c9) 26 (cellsOf (headM t r s z))) := kept (own_mono hown (Nat.le_succ_of_le HA34.out.1.1)); clear hown hb; (try go_wp2_with fail); refine hK.out _ _ (HF2.out.keeps HE.out.1) (fun hHeld => ?_); clear hK K; (try simp only [Act.put, hA, h0, h1]); refine hT 15 (some 5) ?_; refine wpAnyH_done (by kernel_rfl) ?_ _; go_wp2_with fail
          go_meet
          exact ⟨_, _, rfl, HM, HE⟩
  · skip; go_simp; refine name_world (fun W35 hW => ?_); have HA35 := kept (HA0.out.lit hW); have HL35 : Hid (W35.heap[w2.heap.size]? = some (.cells litT 5 (0, 0))) := kept (lit_heap (X := w2.drew) hW); have HG := kept (HA0.out.1.1); clear hW; refine hK.out _ _ (HF2.out.keeps HA35.out.1) (fun hHeld => ?_); clear hK K; (try simp only [Act.put, hA, h0, h1]); refine hV 0 3 (fun K hK => ?_) (fun K hK => ?_)
    · skip; go_simp; go_at_call 121; with_reducible refine (HN1 _).out.mono ?_
      rintro e W36 ⟨A1, c1, rfl, hown, hb⟩; have HA36 := kept (HA35.out.rd hb (Rd.of_own hown) (own_cap hown)); have HL36 := kept (lit_next HL35.out hb); clear hown hb; (try go_wp2_with fail); refine hK.out _ _ (HF2.out.keeps HA36.out.1) (fun hHeld => ?_); clear hK K; (try simp only [Act.put, hA, h0, h1]); refine hV 3 6 (fun K hK => ?_) (fun K hK => ?_)
      · skip; have kc := conv_at W36 (w2.heap.size) HL36.out; go_simp; refine name_world (fun W37 hW => ?_); have HA37 := kept (HA36.out.mark HG.out hW); clear hW kc; refine hK.out _ _ (HF2.out.keeps HA37.out.1) (fun hHeld => ?_); clear hK K; (try simp only [Act.put, hA, h0, h1]); refine hR 6 (fun K hK => ?_); go_simp; go_at_call 123; with_reducible refine (HIr _).out.mono ?_
        rintro e W38 ⟨Ar, cr, rfl, hown, hb⟩; have HA38 := kept (HA37.out.rd hb (Rd.of_own hown) (own_cap hown)); clear hown hb; (try go_wp2_with fail); refine hK.out _ _ (HF2.out.keeps HA38.out.1) (fun hHeld => ?_); clear hK K; (try simp only [Act.put, hA, h0, h1]); refine hR 9 (fun K hK => ?_); go_simp; go_at_call 123; with_reducible refine (HIs _).out.mono ?_
        rintro e W39 ⟨As, cs, rfl, hown, hb⟩; have HA39 := kept (HA38.out.rd hb (Rd.of_own hown) (own_cap hown)); clear hown hb; (try go_wp2_with fail); refine hK.out _ _ (HF2.out.keeps HA39.out.1) (fun hHeld => ?_); clear hK K; (try simp only [Act.put, hA, h0, h1]); refine hR 12 (fun K hK => ?_); go_simp; go_at_call 123; with_reducible refine (HIz _).out.mono ?_
        rintro e W40 ⟨Az, cz, rfl, hown, hb⟩; have HA40 := kept (HA39.out.rd hb (Rd.of_own hown) (own_cap hown)); clear hown hb; (try go_wp2_with fail); refine hK.out _ _ (HF2.out.keeps HA40.out.1) (fun hHeld => ?_); clear hK K; (try simp only [Act.put, hA, h0, h1]); obtain ⟨⟨⟨⟨⟨-, RL⟩, R1, G1⟩, Rr, Gr⟩, Rs, Gs⟩, Rz, Gz⟩ := HA40.out.2.2 _ (Keeps.refl _); have RL : Rd W40 (some ⟨w2.heap.size, 0, none⟩) 5 [84, 69, 82, 82, 1] := RL; have R4 := HO4.out.keeps HA40.out.1; refine hR 13 (fun K hK => ?_); go_simp; refine hK.out _ _ (HF2.out.keeps (HA40.out.1.trans (Keeps.alloc _ _))) (fun hHeld => ?_); clear hK K; (try simp only [Act.put, hA, h0, h1]); refine hR 14 (fun K hK => ?_); go_simp; go_at_call 122; with_reducible refine (concat_head t r s z _ _ _ _ _ _ _ _ _ _ _ _ _ _ R1 R4 RL Rr Rs Rz G1 HC4.out (Nat.le_refl 5) Gr Gs Gz).mono ?_
        rintro e w9 ⟨A9, c9, rfl, hown, hb⟩; have HE := kept (HA40.out.fin hb); have HM : Hid (w9.ownsRow w2.heap.size 5 1 (.slice A9 26 c9) 26 (cellsOf (headM t r s z))) := kept (own_mono hown (Nat.le_succ_of_le HA40.out.1.1)); clear hown hb; (try go_wp2_with fail); refine hK.out _ _ (HF2.out.keeps HE.out.1) (fun hHeld => ?_); clear hK K; (try simp only [Act.put, hA, h0, h1]); refine hT 15 (some 5) ?_; refine wpAnyH_done (by kernel_rfl) ?_ _; go_wp2_with fail
        go_meet
        exact ⟨_, _, rfl, HM, HE⟩
      · skip; go_simp; go_at_call 123; with_reducible refine (HIr _).out.mono ?_
        rintro e W41 ⟨Ar, cr, rfl, hown, hb⟩; have HA41 := kept (HA36.out.rd hb (Rd.of_own hown) (own_cap hown)); have HL41 := kept (lit_next HL36.out hb); clear hown hb; (try go_wp2_with fail); refine hK.out _ _ (HF2.out.keeps HA41.out.1) (fun hHeld => ?_); clear hK K; (try simp only [Act.put, hA, h0, h1]); refine hV 3 9 (fun K hK => ?_) (fun K hK => ?_)
        · skip; have kc := conv_at W41 (w2.heap.size) HL41.out; go_simp; refine name_world (fun W42 hW => ?_); have HA42 := kept (HA41.out.mark HG.out hW); clear hW kc; refine hK.out _ _ (HF2.out.keeps HA42.out.1) (fun hHeld => ?_); clear hK K; (try simp only [Act.put, hA, h0, h1]); refine hR 9 (fun K hK => ?_); go_simp; go_at_call 123; with_reducible refine (HIs _).out.mono ?_
          rintro e W43 ⟨As, cs, rfl, hown, hb⟩; have HA43 := kept (HA42.out.rd hb (Rd.of_own hown) (own_cap hown)); clear hown hb; (try go_wp2_with fail); refine hK.out _ _ (HF2.out.keeps HA43.out.1) (fun hHeld => ?_); clear hK K; (try simp only [Act.put, hA, h0, h1]); refine hR 12 (fun K hK => ?_); go_simp; go_at_call 123; with_reducible refine (HIz _).out.mono ?_
          rintro e W44 ⟨Az, cz, rfl, hown, hb⟩; have HA44 := kept (HA43.out.rd hb (Rd.of_own hown) (own_cap hown)); clear hown hb; (try go_wp2_with fail); refine hK.out _ _ (HF2.out.keeps HA44.out.1) (fun hHeld => ?_); clear hK K; (try simp only [Act.put, hA, h0, h1]); obtain ⟨⟨⟨⟨⟨-, RL⟩, R1, G1⟩, Rr, Gr⟩, Rs, Gs⟩, Rz, Gz⟩ := HA44.out.2.2 _ (Keeps.refl _); have RL : Rd W44 (some ⟨w2.heap.size, 0, none⟩) 5 [84, 69, 82, 82, 1] := RL; have R4 := HO4.out.keeps HA44.out.1; refine hR 13 (fun K hK => ?_); go_simp; refine hK.out _ _ (HF2.out.keeps (HA44.out.1.trans (Keeps.alloc _ _))) (fun hHeld => ?_); clear hK K; (try simp only [Act.put, hA, h0, h1]); refine hR 14 (fun K hK => ?_); go_simp; go_at_call 122; with_reducible refine (concat_head t r s z _ _ _ _ _ _ _ _ _ _ _ _ _ _ R1 R4 RL Rr Rs Rz G1 HC4.out (Nat.le_refl 5) Gr Gs Gz).mono ?_
          rintro e w9 ⟨A9, c9, rfl, hown, hb⟩; have HE := kept (HA44.out.fin hb); have HM : Hid (w9.ownsRow w2.heap.size 5 1 (.slice A9 26 c9) 26 (cellsOf (headM t r s z))) := kept (own_mono hown (Nat.le_succ_of_le HA44.out.1.1)); clear hown hb; (try go_wp2_with fail); refine hK.out _ _ (HF2.out.keeps HE.out.1) (fun hHeld => ?_); clear hK K; (try simp only [Act.put, hA, h0, h1]); refine hT 15 (some 5) ?_; refine wpAnyH_done (by kernel_rfl) ?_ _; go_wp2_with fail
          go_meet
          exact ⟨_, _, rfl, HM, HE⟩
        · skip; go_simp; go_at_call 123; with_reducible refine (HIs _).out.mono ?_
          rintro e W45 ⟨As, cs, rfl, hown, hb⟩; have HA45 := kept (HA41.out.rd hb (Rd.of_own hown) (own_cap hown)); have HL45 := kept (lit_next HL41.out hb); clear hown hb; (try go_wp2_with fail); refine hK.out _ _ (HF2.out.keeps HA45.out.1) (fun hHeld => ?_); clear hK K; (try simp only [Act.put, hA, h0, h1]); refine hV 3 12 (fun K hK => ?_) (fun K hK => ?_)
          · skip; have kc := conv_at W45 (w2.heap.size) HL45.out; go_simp; refine name_world (fun W46 hW => ?_); have HA46 := kept (HA45.out.mark HG.out hW); clear hW kc; refine hK.out _ _ (HF2.out.keeps HA46.out.1) (fun hHeld => ?_); clear hK K; (try simp only [Act.put, hA, h0, h1]); refine hR 12 (fun K hK => ?_); go_simp; go_at_call 123; with_reducible refine (HIz _).out.mono ?_
            rintro e W47 ⟨Az, cz, rfl, hown, hb⟩; have HA47 := kept (HA46.out.rd hb (Rd.of_own hown) (own_cap hown)); clear hown hb; (try go_wp2_with fail); refine hK.out _ _ (HF2.out.keeps HA47.out.1) (fun hHeld => ?_); clear hK K; (try simp only [Act.put, hA, h0, h1]); obtain ⟨⟨⟨⟨⟨-, RL⟩, R1, G1⟩, Rr, Gr⟩, Rs, Gs⟩, Rz, Gz⟩ := HA47.out.2.2 _ (Keeps.refl _); have RL : Rd W47 (some ⟨w2.heap.size, 0, none⟩) 5 [84, 69, 82, 82, 1] := RL; have R4 := HO4.out.keeps HA47.out.1; refine hR 13 (fun K hK => ?_); go_simp; refine hK.out _ _ (HF2.out.keeps (HA47.out.1.trans (Keeps.alloc _ _))) (fun hHeld => ?_); clear hK K; (try simp only [Act.put, hA, h0, h1]); refine hR 14 (fun K hK => ?_); go_simp; go_at_call 122; with_reducible refine (concat_head t r s z _ _ _ _ _ _ _ _ _ _ _ _ _ _ R1 R4 RL Rr Rs Rz G1 HC4.out (Nat.le_refl 5) Gr Gs Gz).mono ?_
            rintro e w9 ⟨A9, c9, rfl, hown, hb⟩; have HE := kept (HA47.out.fin hb); have HM : Hid (w9.ownsRow w2.heap.size 5 1 (.slice A9 26 c9) 26 (cellsOf (headM t r s z))) := kept (own_mono hown (Nat.le_succ_of_le HA47.out.1.1)); clear hown hb; (try go_wp2_with fail); refine hK.out _ _ (HF2.out.keeps HE.out.1) (fun hHeld => ?_); clear hK K; (try simp only [Act.put, hA, h0, h1]); refine hT 15 (some 5) ?_; refine wpAnyH_done (by kernel_rfl) ?_ _; go_wp2_with fail
            go_meet
            exact ⟨_, _, rfl, HM, HE⟩
          · skip; go_simp; go_at_call 123; with_reducible refine (HIz _).out.mono ?_
            rintro e W48 ⟨Az, cz, rfl, hown, hb⟩; have HA48 := kept (HA45.out.rd hb (Rd.of_own hown) (own_cap hown)); have HL48 := kept (lit_next HL45.out hb); clear hown hb; (try go_wp2_with fail); refine hK.out _ _ (HF2.out.keeps HA48.out.1) (fun hHeld => ?_); clear hK K; (try simp only [Act.put, hA, h0, h1]); refine hR 3 (fun K hK => ?_); have kc := conv_at W48 (w2.heap.size) HL48.out; go_simp; refine name_world (fun W49 hW => ?_); have HA49 := kept (HA48.out.mark HG.out hW); clear hW kc; refine hK.out _ _ (HF2.out.keeps HA49.out.1) (fun hHeld => ?_); clear hK K; (try simp only [Act.put, hA, h0, h1]); obtain ⟨⟨⟨⟨⟨-, RL⟩, R1, G1⟩, Rr, Gr⟩, Rs, Gs⟩, Rz, Gz⟩ := HA49.out.2.2 _ (Keeps.refl _); have RL : Rd W49 (some ⟨w2.heap.size, 0, none⟩) 5 [84, 69, 82, 82, 1] := RL; have R4 := HO4.out.keeps HA49.out.1; refine hR 13 (fun K hK => ?_); go_simp; refine hK.out _ _ (HF2.out.keeps (HA49.out.1.trans (Keeps.alloc _ _))) (fun hHeld => ?_); clear hK K; (try simp only [Act.put, hA, h0, h1]); refine hR 14 (fun K hK => ?_); go_simp; go_at_call 122; with_reducible refine (concat_head t r s z _ _ _ _ _ _ _ _ _ _ _ _ _ _ R1 R4 RL Rr Rs Rz G1 HC4.out (Nat.le_refl 5) Gr Gs Gz).mono ?_
            rintro e w9 ⟨A9, c9, rfl, hown, hb⟩; have HE := kept (HA49.out.fin hb); have HM : Hid (w9.ownsRow w2.heap.size 5 1 (.slice A9 26 c9) 26 (cellsOf (headM t r s z))) := kept (own_mono hown (Nat.le_succ_of_le HA49.out.1.1)); clear hown hb; (try go_wp2_with fail); refine hK.out _ _ (HF2.out.keeps HE.out.1) (fun hHeld => ?_); clear hK K; (try simp only [Act.put, hA, h0, h1]); refine hT 15 (some 5) ?_; refine wpAnyH_done (by kernel_rfl) ?_ _; go_wp2_with fail
            go_meet
            exact ⟨_, _, rfl, HM, HE⟩
    · skip; have kc := conv_at W35 (w2.heap.size) HL35.out; go_simp; refine name_world (fun W50 hW => ?_); have HA50 := kept (HA35.out.mark HG.out hW); clear hW kc; refine hK.out _ _ (HF2.out.keeps HA50.out.1) (fun hHeld => ?_); clear hK K; (try simp only [Act.put, hA, h0, h1]); refine hR 0 (fun K hK => ?_); go_simp; go_at_call 121; with_reducible refine (HN1 _).out.mono ?_
      rintro e W51 ⟨A1, c1, rfl, hown, hb⟩; have HA51 := kept (HA50.out.rd hb (Rd.of_own hown) (own_cap hown)); clear hown hb; (try go_wp2_with fail); refine hK.out _ _ (HF2.out.keeps HA51.out.1) (fun hHeld => ?_); clear hK K; (try simp only [Act.put, hA, h0, h1]); refine hR 6 (fun K hK => ?_); go_simp; go_at_call 123; with_reducible refine (HIr _).out.mono ?_
      rintro e W52 ⟨Ar, cr, rfl, hown, hb⟩; have HA52 := kept (HA51.out.rd hb (Rd.of_own hown) (own_cap hown)); clear hown hb; (try go_wp2_with fail); refine hK.out _ _ (HF2.out.keeps HA52.out.1) (fun hHeld => ?_); clear hK K; (try simp only [Act.put, hA, h0, h1]); refine hR 9 (fun K hK => ?_); go_simp; go_at_call 123; with_reducible refine (HIs _).out.mono ?_
      rintro e W53 ⟨As, cs, rfl, hown, hb⟩; have HA53 := kept (HA52.out.rd hb (Rd.of_own hown) (own_cap hown)); clear hown hb; (try go_wp2_with fail); refine hK.out _ _ (HF2.out.keeps HA53.out.1) (fun hHeld => ?_); clear hK K; (try simp only [Act.put, hA, h0, h1]); refine hR 12 (fun K hK => ?_); go_simp; go_at_call 123; with_reducible refine (HIz _).out.mono ?_
      rintro e W54 ⟨Az, cz, rfl, hown, hb⟩; have HA54 := kept (HA53.out.rd hb (Rd.of_own hown) (own_cap hown)); clear hown hb; (try go_wp2_with fail); refine hK.out _ _ (HF2.out.keeps HA54.out.1) (fun hHeld => ?_); clear hK K; (try simp only [Act.put, hA, h0, h1]); obtain ⟨⟨⟨⟨⟨-, RL⟩, R1, G1⟩, Rr, Gr⟩, Rs, Gs⟩, Rz, Gz⟩ := HA54.out.2.2 _ (Keeps.refl _); have RL : Rd W54 (some ⟨w2.heap.size, 0, none⟩) 5 [84, 69, 82, 82, 1] := RL; have R4 := HO4.out.keeps HA54.out.1; refine hR 13 (fun K hK => ?_); go_simp; refine hK.out _ _ (HF2.out.keeps (HA54.out.1.trans (Keeps.alloc _ _))) (fun hHeld => ?_); clear hK K; (try simp only [Act.put, hA, h0, h1]); refine hR 14 (fun K hK => ?_); go_simp; go_at_call 122; with_reducible refine (concat_head t r s z _ _ _ _ _ _ _ _ _ _ _ _ _ _ R1 R4 RL Rr Rs Rz G1 HC4.out (Nat.le_refl 5) Gr Gs Gz).mono ?_
      rintro e w9 ⟨A9, c9, rfl, hown, hb⟩; have HE := kept (HA54.out.fin hb); have HM : Hid (w9.ownsRow w2.heap.size 5 1 (.slice A9 26 c9) 26 (cellsOf (headM t r s z))) := kept (own_mono hown (Nat.le_succ_of_le HA54.out.1.1)); clear hown hb; (try go_wp2_with fail); refine hK.out _ _ (HF2.out.keeps HE.out.1) (fun hHeld => ?_); clear hK K; (try simp only [Act.put, hA, h0, h1]); refine hT 15 (some 5) ?_; refine wpAnyH_done (by kernel_rfl) ?_ _; go_wp2_with fail
      go_meet
      exact ⟨_, _, rfl, HM, HE⟩
 case rest =>
 obtain ⟨A5, c5, rfl, HO5, HE5⟩ := hcut; obtain ⟨i0, hi, hz0, hz1, hz2⟩ := info_parts u8info; obtain ⟨Z, hZ⟩ : ∃ Z : Array Value, Z = (cellsOf (List.replicate 218 0)).toArray := ⟨_, rfl⟩
 have hmk : ∀ u : World, (Instr.makeSlice 46 (.int .i64 218) (.int .i64 218)).run Tryz.prog u = .ok (.slice (some ⟨u.heap.size, 0, none⟩) 218 218) (u.alloc (.cells Z 5)) := fun u => by
  have h := run_make (P := Tryz.prog) u 46 5 i0 (.int .u8 0) Tryz.underlying46 hi hz0 .i64 .i64 218 218 (by omega) (Int.le_refl _) (by rw [hz2]; omega) (by omega); have e : madeCells #[.int .u8 0] 218 = Z := by
   rw [hZ]; apply Array.toList_inj.1; rw [toList_madeCells_one]; generalize 218 = m; simp [cellsOf, byteV]
  rw [← e]; simpa [hz1, Value.cells] using h
 have hZR : ∀ u : World, Rd (u.alloc (.cells Z 5)) (some ⟨u.heap.size, 0, none⟩) 218 (List.replicate 218 0) := fun u => by
  have := Rd.marked u 5 (List.replicate 218 0) (0, 0); rw [hZ]; rw [List.length_replicate] at this; exact this
 have hcb := concat_body t r s z A5 (some ⟨wc.heap.size, 0, none⟩) A4 c5 218 c4 46 (wc.alloc (.cells Z 5)) ((Rd.of_own HO5.out).alloc _) (hZR wc) ((HO4.out.keeps HE5.out.1).alloc _) (own_cap HO5.out) (Nat.le_refl _) HC4.out; rw [World.size_alloc] at hcb; have HCB := kept hcb; have HMK := kept hmk; have hmk := HMK.out; have HBC := kept (bel_to HE5.out.2 HB2.out); have HBZ := fun o => kept ((HBC.out.alloc HBC.out.size (.cells Z 5)).alloc (Nat.le_trans HBC.out.size (by simp)) o)
 clear hZ hZR hcb hi hz0 hz1 hz2; go_wp2_with fail
 with_reducible refine HCB.out.mono ?_
 rintro e w6 ⟨A6, c6, rfl, hown, hb⟩; have HB6 := kept (bel_to hb (HBZ _).out); have HSL := kept (seal_252 A6 c6 (bodyN t r s z) w6 (Rd.of_own hown) (own_cap hown) (HFO.out.below HB6.out)); clear hown hb; go_wp2_with fail
 with_reducible refine HSL.out.mono ?_
 rintro e w7 ⟨A7, c7, rfl, hown, hb⟩; have HO7 := kept (own_mono hown HB6.out.size); have HB7 := kept (bel_to hb HB6.out); clear hown hb; go_wp2; go_ret2; exact ⟨A7, c7, rfl, HO7.out, HB7.out⟩
theorem encode_m (m : Mt) (w : World) (ht : m.txn < 18446744073709551616) (hR : rightM m = true) (hF : Fours w) :
 Calls Tryz.prog 76 #[m.val] w fun e w' => ∃ A c, e = .returned (.tuple #[.slice A 256 c, .int .i64 0]) ∧ w'.ownsRow w.heap.size 5 1 (.slice A 256 c) 256 (cellsOf (sealed (bodyM m))) ∧ Below w.heap.size w w' := by
 obtain ⟨r, s, z, e, hr, hs, hz, hb⟩ := rightM_nat hR; rw [hb]; rw [e] at hR ⊢; exact encode_nat m.txn r s z w ht hr hs hz hR hF
def readM (ys : List UInt8) : Mt := ⟨num (part ys 1 8) 0, ((num (part ys 14 4) 0 : Nat) : Int), ((num (part ys 18 4) 0 : Nat) : Int), ((num (part ys 22 4) 0 : Nat) : Int)⟩
theorem readM_txn {ys : List UInt8} (h : ys.length = 252) : (readM ys).txn < 18446744073709551616 := num_part_lt ys 1 8 (by omega)
theorem rnum_at (ys : List UInt8) (k p : Nat) (h : p + k ≤ ys.length) : rnum ys k (p, 0) = (num (part ys p k) 0, (p + k, 0)) := by
 unfold rnum; simp [h]
theorem rbytes_at (ys : List UInt8) (k p : Nat) (h : p + k ≤ ys.length) : rbytes ys k (p, 0) = (part ys p k, (p + k, 0)) := by
 unfold rbytes; simp [h]
theorem readIDm_any (r : Nat) (A : Option Addr) (n c : Nat) (xs : List UInt8) (s : Rst) (w : World) (h : RS w r A n c xs s) :
 Calls Tryz.prog 248 #[.pointer (some ⟨r, 0, none⟩)] w fun e w' => e = .returned (.int .i64 (((rnum xs 4 s).1 : Nat) : Int)) ∧ Hid (RS w' r A n c xs (rnum xs 4 s).2 ∧ Only w w' r) := by
 have HN := num4 r A n c xs s w h; have hlt := rnum_lt xs 4 s; obtain ⟨v, hv⟩ : ∃ v, (rnum xs 4 s).1 = v := ⟨_, rfl⟩
 obtain ⟨s', hs⟩ : ∃ s', (rnum xs 4 s).2 = s' := ⟨_, rfl⟩
 rw [hv, hs] at HN; rw [hv] at hlt ⊢; rw [hs]; have HN := kept HN; have hw : IntKind.i64.wrap (v : Int) = (v : Int) := IntWalk.i64_in _ ⟨by omega, by omega⟩; clear h hv hs; go_enter Tryz.func248, Tryz.ntmps248; go_wp2_with (first | (go_at_call 229; (with_reducible refine (HN.out).mono ?_); rintro e w2 ⟨rfl, h2⟩))
 go_ret; exact ⟨rfl, h2⟩
theorem bytes5 (r : Nat) (A : Option Addr) (n c : Nat) (xs : List UInt8) (s : Rst) (w : World) (h : RS w r A n c xs s) :
 Calls Tryz.prog 185 #[.pointer (some ⟨r, 0, none⟩), .int .i64 5] w fun e w' => ∃ A' n' c', e = .returned (.slice A' n' c') ∧ Hid (Rd w' A' n' (rbytes xs 5 s).1 ∧ New A' n' w.heap.size ∧ n' ≤ c' ∧ n' ≤ 5) ∧ Hid (RS w' r A n c xs (rbytes xs 5 s).2 ∧ Only w w' r) := bytes_any r A n c xs s 5 w h (by omega)
structure MS (w W : World) (r : Nat) (A : Option Addr) (c : Nat) (ys : List UInt8) (s : Rst) (b : Nat) (v0 v1 v2 v3 : Value) : Prop where
 rs : RS W r A 252 c ys s
 bel : Below w.heap.size w W
 res : Blk W w.heap.size 88 [.int .u64 0, .int .i64 0, .int .i64 0, .int .i64 0]
 blk : Blk W b 88 [v0, v1, v2, v3]
 qr : w.heap.size < r
 qb : w.heap.size < b
 rb : r ≠ b
 ab : apartA A 252 b
section
variable {w W W' : World} {r b : Nat} {A : Option Addr} {c : Nat} {ys : List UInt8} {s s' : Rst} {v0 v1 v2 v3 : Value}
theorem MS.call (h : MS w W r A c ys s b v0 v1 v2 v3) (hr : RS W' r A 252 c ys s' ∧ Only W W' r) : MS w W' r A c ys s' b v0 v1 v2 v3 :=
 ⟨hr.1, hr.2.below h.bel h.bel.size (Nat.le_of_lt h.qr), h.res.only hr.2 (by have := h.qr; omega), h.blk.only hr.2 (fun e => h.rb e.symm), h.qr, h.qb, h.rb, h.ab⟩
theorem MS.set_ (h : MS w W r A c ys s b v0 v1 v2 v3) (i : Nat) (u u0 u1 u2 u3 : Value) (e : [v0, v1, v2, v3].set i u = [u0, u1, u2, u3]) : MS w (W.setCell ⟨b, i, none⟩ u) r A c ys s b u0 u1 u2 u3 :=
 ⟨h.rs.set_ h.rb h.ab i u, h.bel.setCell (p := ⟨b, i, none⟩) (Nat.le_of_lt h.qb) u, h.res.far (p := ⟨b, i, none⟩) (by have := h.qb; show w.heap.size ≠ b; omega) u, by rw [← e]; exact h.blk.set_ i u, h.qr, h.qb, h.rb, h.ab⟩
end
theorem store4 {w W : World} {B q : Nat} {T : TypeId} {x0 x1 x2 x3 : Value} (h : Blk W q T [x0, x1, x2, x3]) (hb : Below B w W) (hq : B ≤ q) (u0 u1 u2 u3 : Value) :
 ((((W.setCell ⟨q, 0, none⟩ u0).setCell ⟨q, 1, none⟩ u1).setCell ⟨q, 2, none⟩ u2).setCell ⟨q, 3, none⟩ u3).cell? ⟨q, 0, none⟩ = some u0 ∧
 ((((W.setCell ⟨q, 0, none⟩ u0).setCell ⟨q, 1, none⟩ u1).setCell ⟨q, 2, none⟩ u2).setCell ⟨q, 3, none⟩ u3).cell? ⟨q, 1, none⟩ = some u1 ∧
 ((((W.setCell ⟨q, 0, none⟩ u0).setCell ⟨q, 1, none⟩ u1).setCell ⟨q, 2, none⟩ u2).setCell ⟨q, 3, none⟩ u3).cell? ⟨q, 2, none⟩ = some u2 ∧
 ((((W.setCell ⟨q, 0, none⟩ u0).setCell ⟨q, 1, none⟩ u1).setCell ⟨q, 2, none⟩ u2).setCell ⟨q, 3, none⟩ u3).cell? ⟨q, 3, none⟩ = some u3 ∧
 Below B w ((((W.setCell ⟨q, 0, none⟩ u0).setCell ⟨q, 1, none⟩ u1).setCell ⟨q, 2, none⟩ u2).setCell ⟨q, 3, none⟩ u3) := by
 have k := (((h.set_ 0 u0).set_ 1 u1).set_ 2 u2).set_ 3 u3; exact ⟨k.cell 0, k.cell 1, k.cell 2, k.cell 3, (((hb.setCell (p := ⟨q, 0, none⟩) hq u0).setCell (p := ⟨q, 1, none⟩) hq u1).setCell (p := ⟨q, 2, none⟩) hq u2).setCell (p := ⟨q, 3, none⟩) hq u3⟩
theorem read_m (A : Option Addr) (c : Nat) (ys : List UInt8) (w : World) (hr : Rd w A 252 ys) (hc : 252 ≤ c) :
 Calls Tryz.prog 225 #[.slice A 252 c] w fun e w' => e = .returned (readM ys).val ∧ Below w.heap.size w w' := by
 have hyl : ys.length = 252 := hr.1; have HNR := fun o => kept (newReader_any A 252 c ys (w.alloc o) (hr.alloc o) (by omega))
 have E1 := kept (rnum_at ys 1 0 (by omega)); have E2 := kept (rnum_at ys 8 1 (by omega)); have E3 := kept (rbytes_at ys 5 9 (by omega)); have E4 := kept (rnum_at ys 4 14 (by omega)); have E5 := kept (rnum_at ys 4 18 (by omega)); have E6 := kept (rnum_at ys 4 22 (by omega)); have HV : Hid ((readM ys).val = .agg #[.int .u64 ((num (part ys 1 8) 0 : Nat) : Int), .int .i64 ((num (part ys 14 4) 0 : Nat) : Int), .int .i64 ((num (part ys 18 4) 0 : Nat) : Int), .int .i64 ((num (part ys 22 4) 0 : Nat) : Int)]) := rfl; generalize (readM ys).val = RV at HV; generalize num (part ys 1 8) 0 = p1 at E2 HV; generalize num (part ys 14 4) 0 = p2 at E4 HV; generalize num (part ys 18 4) 0 = p3 at E5 HV; generalize num (part ys 22 4) 0 = p4 at E6 HV; clear hr; go_enter Tryz.func225, Tryz.ntmps225; go_wp2_with fail
 with_reducible refine (HNR _).out.mono ?_
 rintro e w2 ⟨r, A2, c2, rfl, hr2, hc2, hrs, hb2⟩; have HQ2 := kept ((Blk.new w 88 #[.int .u64 0, .int .i64 0, .int .i64 0, .int .i64 0]).below hb2 (by simp)); have HB2 := kept (bel_to hb2 ((Below.refl _ w).alloc (Nat.le_refl _) _)); have HR2 : Hid (RS w2 r A2 252 c2 ys (0, 0)) := kept ⟨hr2, Nat.zero_le _, .inl rfl, hc2, by omega⟩; have HQR := kept (show w.heap.size < r by have h := hrs; rw [World.size_alloc] at h; exact h); have h1 := num1 r A2 252 c2 ys (0, 0) w2 HR2.out; rw [E1.out] at h1; have H1 := kept h1; clear hr2 hc2 hrs hb2 h1; go_wp2_with fail
 with_reducible refine H1.out.mono ?_
 rintro e w3 ⟨rfl, hR3, hO3⟩; have HQ3 := kept (HQ2.out.only hO3 (by have := HQR.out; show w.heap.size ≠ r; omega)); have HB3 := kept (hO3.below HB2.out HB2.out.size (Nat.le_of_lt HQR.out)); have h1 := num8 r A2 252 c2 ys (1, 0) w3 hR3; rw [E2.out] at h1; have H1 := kept h1; clear hR3 hO3 h1; go_wp2_with fail
 with_reducible refine H1.out.mono ?_
 rintro e w4 ⟨rfl, hR4, hO4⟩; have hq4 := HQ3.out.only hO4 (by have := HQR.out; show w.heap.size ≠ r; omega); have HM4 : Hid (MS w (w4.alloc (.cells #[.int .u64 (p1 : Int), .int .i64 0, .int .i64 0, .int .i64 0] 88)) r A2 c2 ys (9, 0) w4.heap.size (.int .u64 (p1 : Int)) (.int .i64 0) (.int .i64 0) (.int .i64 0)) := by
  have hb4 := hO4.below HB3.out HB3.out.size (Nat.le_of_lt HQR.out); exact kept ⟨hR4.alloc _, hb4.alloc hb4.size _, hq4.alloc _, Blk.new w4 88 #[.int .u64 (p1 : Int), .int .i64 0, .int .i64 0, .int .i64 0], HQR.out, hq4.lt, by have := hR4.lt; omega, hR4.apart (Nat.le_refl _)⟩
 have h1 := bytes5 r A2 252 c2 ys (9, 0) _ HM4.out.rs; rw [E3.out] at h1; have H1 := kept h1; clear hR4 hO4 hq4 h1; go_wp2_with fail
 with_reducible refine H1.out.mono ?_
 rintro e w5 ⟨A5, n5, c5, rfl, _, h5⟩; have HM5 := kept (HM4.out.call h5.out); generalize w4.heap.size = b at HM4 HM5 ⊢; have h1 := readIDm_any r A2 252 c2 ys (14, 0) w5 HM5.out.rs; rw [E4.out] at h1; have H1 := kept h1; clear h5 h1; go_wp2_with fail
 with_reducible refine H1.out.mono ?_
 rintro e w6 ⟨rfl, h6⟩; have hm := HM5.out.call h6.out; have k1 : w6.cell? ⟨b, 1, none⟩ = some (.int .i64 0) := hm.blk.cell 1; have f1 := hm.blk.frozen 1; have HM6 := kept (hm.set_ 1 (.int .i64 (p2 : Int)) (.int .u64 (p1 : Int)) (.int .i64 (p2 : Int)) (.int .i64 0) (.int .i64 0) rfl); have h1 := readIDm_any r A2 252 c2 ys (18, 0) _ HM6.out.rs; rw [E5.out] at h1; have H1 := kept h1; clear h6 hm h1; go_wp2_with fail
 with_reducible refine H1.out.mono ?_
 rintro e w7 ⟨rfl, h7⟩; have hm := HM6.out.call h7.out; clear k1 f1; have k1 : w7.cell? ⟨b, 2, none⟩ = some (.int .i64 0) := hm.blk.cell 2; have f1 := hm.blk.frozen 2; have HM7 := kept (hm.set_ 2 (.int .i64 (p3 : Int)) (.int .u64 (p1 : Int)) (.int .i64 (p2 : Int)) (.int .i64 (p3 : Int)) (.int .i64 0) rfl); have h1 := readIDm_any r A2 252 c2 ys (22, 0) _ HM7.out.rs; rw [E6.out] at h1; have H1 := kept h1; clear h7 hm h1; go_wp2_with fail
 with_reducible refine H1.out.mono ?_
 rintro e w8 ⟨rfl, h8⟩; have hm := HM7.out.call h8.out; clear k1 f1; have k1 : w8.cell? ⟨b, 3, none⟩ = some (.int .i64 0) := hm.blk.cell 3; have f1 := hm.blk.frozen 3; have hm8 := hm.set_ 3 (.int .i64 (p4 : Int)) (.int .u64 (p1 : Int)) (.int .i64 (p2 : Int)) (.int .i64 (p3 : Int)) (.int .i64 (p4 : Int)) rfl; have k0 : w8.cell? ⟨b, 0, none⟩ = some (.int .u64 (p1 : Int)) := hm.blk.cell 0; have k2 : w8.cell? ⟨b, 1, none⟩ = some (.int .i64 (p2 : Int)) := hm.blk.cell 1; have k3 : w8.cell? ⟨b, 2, none⟩ = some (.int .i64 (p3 : Int)) := hm.blk.cell 2; have HQB := kept (show w.heap.size ≠ b by have := hm8.qb; omega); have q0 : (w8.setCell ⟨b, 3, none⟩ (.int .i64 (p4 : Int))).cell? ⟨w.heap.size, 0, none⟩ = some (.int .u64 0) := hm8.res.cell 0; have q1 : (w8.setCell ⟨b, 3, none⟩ (.int .i64 (p4 : Int))).cell? ⟨w.heap.size, 1, none⟩ = some (.int .i64 0) := hm8.res.cell 1; have q2 : (w8.setCell ⟨b, 3, none⟩ (.int .i64 (p4 : Int))).cell? ⟨w.heap.size, 2, none⟩ = some (.int .i64 0) := hm8.res.cell 2; have q3 : (w8.setCell ⟨b, 3, none⟩ (.int .i64 (p4 : Int))).cell? ⟨w.heap.size, 3, none⟩ = some (.int .i64 0) := hm8.res.cell 3; have g0 := hm8.res.frozen 0; have g1 := hm8.res.frozen 1; have g2 := hm8.res.frozen 2; have g3 := hm8.res.frozen 3; have HM8 := kept hm8; clear h8 hm hm8; go_wp2; have hx := store4 (x0 := .int .u64 0) (x1 := .int .i64 0) (x2 := .int .i64 0) (x3 := .int .i64 0) HM8.out.res HM8.out.bel (Nat.le_refl _) (.int .u64 (p1 : Int)) (.int .i64 (p2 : Int)) (.int .i64 (p3 : Int)) (.int .i64 (p4 : Int)); generalize ((((w8.setCell ⟨b, 3, none⟩ (.int .i64 (p4 : Int))).setCell ⟨w.heap.size, 0, none⟩ (.int .u64 (p1 : Int))).setCell ⟨w.heap.size, 1, none⟩ (.int .i64 (p2 : Int))).setCell ⟨w.heap.size, 2, none⟩ (.int .i64 (p3 : Int))).setCell ⟨w.heap.size, 3, none⟩ (.int .i64 (p4 : Int)) = X at hx ⊢; obtain ⟨v0, v1, v2, v3, hbx⟩ := hx; exact bodyPost_ret (v := .agg #[.int .u64 (p1 : Int), .int .i64 (p2 : Int), .int .i64 (p3 : Int), .int .i64 (p4 : Int)]) (by simp [results, Tryz.results225, go_sem, v0, v1, v2, v3]) rfl ⟨by rw [HV.out], hbx⟩
abbrev zeroV5 : Value := .agg #[.int .u64 0, .int .i64 0, .int .i64 0, .int .i64 0]
def decM (xs : List UInt8) : Mt × Int :=
 if xs.length ≠ 256 then (zeroMt, 4) else if num (xs.take 4) 0 ≠ csum (xs.drop 4) then (zeroMt, 6) else
  if rightM (readM (xs.drop 4)) && decide (bodyM (readM (xs.drop 4)) = xs.drop 4) then (readM (xs.drop 4), 0) else (zeroMt, 4)
theorem decode_m_size (A : Option Addr) (n c : Nat) (w : World) (hn : n ≠ 256) :
 Calls Tryz.prog 180 #[.slice A n c] w fun e w' => e = .returned (.tuple #[zeroV5, .int .i64 4]) ∧ Below w.heap.size w w' := by
 have hb : ((n : Int) != 256) = true := by simp; omega
 clear hn; go_enter Tryz.func180, Tryz.ntmps180; go_wp2; exact bodyPost_ret (v := .tuple #[zeroV5, .int .i64 4]) (by simp [results, Tryz.results180, go_sem]) rfl ⟨rfl, (Below.refl _ _).alloc (Nat.le_refl _) _⟩
theorem decode_m_sum (A : Option Addr) (c : Nat) (xs : List UInt8) (w : World) (hr : Rd w A 256 xs) (hc : 256 ≤ c) (hf : Fours w) (hw : num (xs.take 4) 0 ≠ csum (xs.drop 4)) :
 Calls Tryz.prog 180 #[.slice A 256 c] w fun e w' => e = .returned (.tuple #[zeroV5, .int .i64 6]) ∧ Below w.heap.size w w' := by
 have HO := fun o => kept (open_wrong A 256 c xs (w.alloc o) (hr.alloc o) hc (by omega) (by omega) (hf.alloc o) hw)
 clear hr hf hw; go_enter Tryz.func180, Tryz.ntmps180; go_wp2_with fail
 with_reducible refine (HO _).out.mono ?_
 rintro e w1 ⟨rfl, hb⟩; have hblk := (Blk.new w 88 #[.int .u64 0, .int .i64 0, .int .i64 0, .int .i64 0]).below hb (by simp); have HBB := kept (bel_to hb ((Below.refl _ w).alloc (Nat.le_refl _) _)); obtain ⟨e0, e1, e2, e3⟩ := hblk.fou; have f0 := hblk.frozen 0; have f1 := hblk.frozen 1; have f2 := hblk.frozen 2; have f3 := hblk.frozen 3; have HBL := kept hblk; clear hb hblk; go_wp2; have hx := store4 HBL.out HBB.out (Nat.le_refl _) (.int .u64 0) (.int .i64 0) (.int .i64 0) (.int .i64 0); generalize (((w1.setCell ⟨w.heap.size, 0, none⟩ (.int .u64 0)).setCell ⟨w.heap.size, 1, none⟩ (.int .i64 0)).setCell ⟨w.heap.size, 2, none⟩ (.int .i64 0)).setCell ⟨w.heap.size, 3, none⟩ (.int .i64 0) = X at hx ⊢; obtain ⟨v0, v1, v2, v3, hbx⟩ := hx; exact bodyPost_ret (v := .tuple #[zeroV5, .int .i64 6]) (by simp [results, Tryz.results180, go_sem, v0, v1, v2, v3]) rfl ⟨rfl, hbx⟩
theorem sealed_ne {ys zs : List UInt8} {xs : List UInt8} (hs : num (xs.take 4) 0 = csum (xs.drop 4)) (h4 : 4 ≤ xs.length) : (sealed ys = xs) ↔ (ys = xs.drop 4) := by
 constructor
 · intro e; rw [← e, sealed_drop]
 · intro e; rw [e]; exact (sealed_iff xs h4).2 hs
theorem decode_m_body (A : Option Addr) (c : Nat) (xs : List UInt8) (w : World) (hr : Rd w A 256 xs) (hc : 256 ≤ c) (hf : Fours w) (hw : num (xs.take 4) 0 = csum (xs.drop 4)) :
 Calls Tryz.prog 180 #[.slice A 256 c] w fun e w' => e = .returned (.tuple #[(decM xs).1.val, .int .i64 (decM xs).2]) ∧ Below w.heap.size w w' := by
 have HO := fun o => kept (open_right A 256 c xs (w.alloc o) (hr.alloc o) hc (by omega) (by omega) (hf.alloc o) hw)
 have HSI := kept (fun ys => sealed_ne (ys := ys) (zs := ys) hw (by have := hr.1; omega)); have hyl : (xs.drop 4).length = 252 := by rw [List.length_drop, hr.1]
 have HD : Hid (decM xs = if rightM (readM (xs.drop 4)) && decide (bodyM (readM (xs.drop 4)) = xs.drop 4) then (readM (xs.drop 4), 0) else (zeroMt, 4)) := by
  show _ = _; unfold decM; rw [if_neg (by simpa using hr.1), if_neg (by simpa using hw)]
 obtain ⟨ys, hys⟩ : ∃ ys, xs.drop 4 = ys := ⟨_, rfl⟩
 rw [hys] at HO hyl HSI HD; simp only [Nat.reduceSub] at HO; have HRM := fun A c W h1 h2 => kept (read_m A c ys W h1 h2)
 have htx := readM_txn hyl; generalize readM ys = m at HRM HD htx; have HR := kept hr; have HF := kept hf; generalize decM xs = D at HD; clear hr hf hw hys; have hblk := fun {X : World} (hb : Below (w.alloc (.cells #[.int .u64 0, .int .i64 0, .int .i64 0, .int .i64 0] 88)).heap.size (w.alloc (.cells #[.int .u64 0, .int .i64 0, .int .i64 0, .int .i64 0] 88)) X) => (Blk.new w 88 #[.int .u64 0, .int .i64 0, .int .i64 0, .int .i64 0]).below hb (by simp)
 have HBK := fun X hb => kept (hblk (X := X) hb)
 clear hblk; by_cases hrt : rightM m = true
 · have HE := fun W h => kept (encode_m m W htx hrt h)
   by_cases hbd : bodyM m = ys
   · have HDD : Hid (D = (m, 0)) := by show _ = _; rw [HD.out, if_pos (by simp [hrt, hbd])]
     have HEQ := fun A1 B1 c1 d1 W h1 h2 => kept (bytesEqual_any A1 B1 256 256 c1 d1 (sealed (bodyM m)) xs W h1 h2 true (by rw [decide_eq_true_eq]; exact (HSI.out _).2 hbd))
     clear hrt hbd htx; obtain ⟨t, r, s, z⟩ := m; go_enter Tryz.func180, Tryz.ntmps180; go_wp2_with fail
     with_reducible refine (HO _).out.mono ?_
     rintro e w1 ⟨A1, c1, rfl, hown, hb⟩; have HQ1 := HBK _ hb; have HB1 := kept (bel_to hb ((Below.refl _ w).alloc (Nat.le_refl _) _)); have HRD := kept (HRM A1 c1 w1 (Rd.of_own hown) (own_cap hown)).out; clear hown hb; go_wp2_with fail
     with_reducible refine HRD.out.mono ?_
     rintro e w2 ⟨rfl, hb⟩; have HQ2 := kept (HQ1.out.below hb HQ1.out.lt); have HB2 := kept (bel_to hb HB1.out); have HN2 := kept (fou_new w2 88 t r s z); have HF2 := kept ((HF.out.below HB2.out).alloc (.cells #[.int .u64 (t : Int), .int .i64 r, .int .i64 s, .int .i64 z] 88)); clear hb; go_wp2_with fail
     with_reducible refine (HE _ HF2.out).out.mono ?_
     rintro e w3 ⟨A3, c3, rfl, hown, hb⟩; have hb3 := bel_to hb (HB2.out.alloc HB2.out.size _); obtain ⟨n0, n1, n2, n3⟩ := HN2.out.keeps (Keeps.of_below hb); have hq3 := (HQ2.out.alloc _).below hb (HQ2.out.alloc _).lt; have HEE := kept (HEQ _ A c3 c w3 (Rd.of_own hown) (HR.out.below hb3)).out; obtain ⟨e0, e1, e2, e3⟩ := hq3.fou; have f0 := hq3.frozen 0; have f1 := hq3.frozen 1; have f2 := hq3.frozen 2; have f3 := hq3.frozen 3; have hne : w2.heap.size ≠ w.heap.size := by have := HQ2.out.lt; omega
     have HQ3 := kept hq3; have HB3 := kept hb3; clear hown hb hb3 hq3; go_wp2_with (first | (go_at_call 226; (with_reducible refine (HEE.out).mono ?_); rintro e w4 ⟨rfl, rfl⟩))
     have hx := store4 HQ3.out HB3.out (Nat.le_refl _) (.int .u64 (t : Int)) (.int .i64 r) (.int .i64 s) (.int .i64 z); generalize (((w3.setCell ⟨w.heap.size, 0, none⟩ (.int .u64 (t : Int))).setCell ⟨w.heap.size, 1, none⟩ (.int .i64 r)).setCell ⟨w.heap.size, 2, none⟩ (.int .i64 s)).setCell ⟨w.heap.size, 3, none⟩ (.int .i64 z) = X at hx ⊢; obtain ⟨v0, v1, v2, v3, hbx⟩ := hx; exact bodyPost_ret (v := .tuple #[.agg #[.int .u64 (t : Int), .int .i64 r, .int .i64 s, .int .i64 z], .int .i64 0]) (by simp [results, Tryz.results180, go_sem, v0, v1, v2, v3]) rfl ⟨by rw [HDD.out], hbx⟩
   · have HDD : Hid (D = (zeroMt, 4)) := by show _ = _; rw [HD.out, if_neg (by simp [hbd])]
     have HEQ := fun A1 B1 c1 d1 W h1 h2 => kept (bytesEqual_any A1 B1 256 256 c1 d1 (sealed (bodyM m)) xs W h1 h2 false (by rw [decide_eq_false_iff_not]; exact fun e => hbd ((HSI.out _).1 e)))
     clear hrt hbd htx; obtain ⟨t, r, s, z⟩ := m; go_enter Tryz.func180, Tryz.ntmps180; go_wp2_with fail
     with_reducible refine (HO _).out.mono ?_
     rintro e w1 ⟨A1, c1, rfl, hown, hb⟩; have HQ1 := HBK _ hb; have HB1 := kept (bel_to hb ((Below.refl _ w).alloc (Nat.le_refl _) _)); have HRD := kept (HRM A1 c1 w1 (Rd.of_own hown) (own_cap hown)).out; clear hown hb; go_wp2_with fail
     with_reducible refine HRD.out.mono ?_
     rintro e w2 ⟨rfl, hb⟩; have HQ2 := kept (HQ1.out.below hb HQ1.out.lt); have HB2 := kept (bel_to hb HB1.out); have HF2 := kept ((HF.out.below HB2.out).alloc (.cells #[.int .u64 (t : Int), .int .i64 r, .int .i64 s, .int .i64 z] 88)); clear hb; go_wp2_with fail
     with_reducible refine (HE _ HF2.out).out.mono ?_
     rintro e w3 ⟨A3, c3, rfl, hown, hb⟩; have hb3 := bel_to hb (HB2.out.alloc HB2.out.size _); have hq3 := (HQ2.out.alloc _).below hb (HQ2.out.alloc _).lt; have HEE := kept (HEQ _ A c3 c w3 (Rd.of_own hown) (HR.out.below hb3)).out; obtain ⟨e0, e1, e2, e3⟩ := hq3.fou; have f0 := hq3.frozen 0; have f1 := hq3.frozen 1; have f2 := hq3.frozen 2; have f3 := hq3.frozen 3; have HQ3 := kept hq3; have HB3 := kept hb3; clear hown hb hb3 hq3; go_wp2_with (first | (go_at_call 226; (with_reducible refine (HEE.out).mono ?_); rintro e w4 ⟨rfl, rfl⟩))
     have hx := store4 HQ3.out HB3.out (Nat.le_refl _) (.int .u64 0) (.int .i64 0) (.int .i64 0) (.int .i64 0); generalize (((w3.setCell ⟨w.heap.size, 0, none⟩ (.int .u64 0)).setCell ⟨w.heap.size, 1, none⟩ (.int .i64 0)).setCell ⟨w.heap.size, 2, none⟩ (.int .i64 0)).setCell ⟨w.heap.size, 3, none⟩ (.int .i64 0) = X at hx ⊢; obtain ⟨v0, v1, v2, v3, hbx⟩ := hx; exact bodyPost_ret (v := .tuple #[zeroV5, .int .i64 4]) (by simp [results, Tryz.results180, go_sem, v0, v1, v2, v3]) rfl ⟨by rw [HDD.out]; rfl, hbx⟩
 · have hrt : rightM m = false := by simpa using hrt
   have HDD : Hid (D = (zeroMt, 4)) := by show _ = _; rw [HD.out, if_neg (by simp [hrt])]
   have HE := fun W => kept (encode_m_wrong m W hrt)
   clear hrt htx; obtain ⟨t, r, s, z⟩ := m; go_enter Tryz.func180, Tryz.ntmps180; go_wp2_with fail
   with_reducible refine (HO _).out.mono ?_
   rintro e w1 ⟨A1, c1, rfl, hown, hb⟩; have HQ1 := HBK _ hb; have HB1 := kept (bel_to hb ((Below.refl _ w).alloc (Nat.le_refl _) _)); have HRD := kept (HRM A1 c1 w1 (Rd.of_own hown) (own_cap hown)).out; clear hown hb; go_wp2_with fail
   with_reducible refine HRD.out.mono ?_
   rintro e w2 ⟨rfl, hb⟩; have HQ2 := kept (HQ1.out.below hb HQ1.out.lt); have HB2 := kept (bel_to hb HB1.out); clear hb; go_wp2_with fail
   with_reducible refine (HE _).out.mono ?_
   rintro e w3 ⟨rfl, hb⟩; have hb3 := bel_to hb (HB2.out.alloc HB2.out.size _); have hq3 := (HQ2.out.alloc _).below hb (HQ2.out.alloc _).lt; obtain ⟨e0, e1, e2, e3⟩ := hq3.fou; have f0 := hq3.frozen 0; have f1 := hq3.frozen 1; have f2 := hq3.frozen 2; have f3 := hq3.frozen 3; have HQ3 := kept hq3; have HB3 := kept hb3; clear hb hb3 hq3; go_wp2; have hx := store4 HQ3.out HB3.out (Nat.le_refl _) (.int .u64 0) (.int .i64 0) (.int .i64 0) (.int .i64 0); generalize (((w3.setCell ⟨w.heap.size, 0, none⟩ (.int .u64 0)).setCell ⟨w.heap.size, 1, none⟩ (.int .i64 0)).setCell ⟨w.heap.size, 2, none⟩ (.int .i64 0)).setCell ⟨w.heap.size, 3, none⟩ (.int .i64 0) = X at hx ⊢; obtain ⟨v0, v1, v2, v3, hbx⟩ := hx; exact bodyPost_ret (v := .tuple #[zeroV5, .int .i64 4]) (by simp [results, Tryz.results180, go_sem, v0, v1, v2, v3]) rfl ⟨by rw [HDD.out]; rfl, hbx⟩
theorem decode_m (A : Option Addr) (n c : Nat) (xs : List UInt8) (w : World) (hr : Rd w A n xs) (hc : n ≤ c) (hf : Fours w) :
 Calls Tryz.prog 180 #[.slice A n c] w fun e w' => e = .returned (.tuple #[(decM xs).1.val, .int .i64 (decM xs).2]) ∧ Below w.heap.size w w' := by
 by_cases hn : n = 256
 · subst hn; by_cases hw : num (xs.take 4) 0 = csum (xs.drop 4)
   · exact decode_m_body A c xs w hr hc hf hw
   · have e : decM xs = (zeroMt, 6) := by unfold decM; rw [if_neg (by simpa using hr.1), if_pos hw]
     rw [e]; exact decode_m_sum A c xs w hr hc hf hw
 · have e : decM xs = (zeroMt, 4) := by unfold decM; rw [if_pos (by rw [hr.1]; exact hn)]
   rw [e]; exact decode_m_size A n c w hn
theorem decM_txn (xs : List UInt8) : (decM xs).1.txn < 18446744073709551616 := by
 unfold decM
 split
 · decide
 · split
   · decide
   · rename_i h _
     split
     · exact readM_txn (by rw [List.length_drop]; omega)
     · decide
def standM (xs : List UInt8) (k : Int) : Mt × Bool := if (decM xs).2 = 0 ∧ (((decM xs).1.txn % 2 : Nat) : Int) = k then ((decM xs).1, true) else (zeroMt, false)
def chooseM (xs ys : List UInt8) : Mt × Int :=
 if (standM ys 1).2 && (!(standM xs 0).2 || decide ((standM xs 0).1.txn < (standM ys 1).1.txn)) then ((standM ys 1).1, 0)
 else if (standM xs 0).2 then ((standM xs 0).1, 0) else (zeroMt, 7)
theorem stand_m (A : Option Addr) (n c : Nat) (xs : List UInt8) (k : Int) (w : World) (hr : Rd w A n xs) (hc : n ≤ c) (hf : Fours w) :
 Calls Tryz.prog 133 #[.slice A n c, .int .u64 k] w fun e w' => e = .returned (.tuple #[(standM xs k).1.val, .bool (standM xs k).2]) ∧ Below w.heap.size w w' := by
 have HDC := fun o => kept (decode_m A n c xs (w.alloc o) (hr.alloc o) hc (hf.alloc o))
 have htx := decM_txn xs; have HS : Hid (standM xs k = if (decM xs).2 = 0 ∧ (((decM xs).1.txn % 2 : Nat) : Int) = k then ((decM xs).1, true) else (zeroMt, false)) := rfl; generalize standM xs k = S at HS; generalize decM xs = D at HDC HS htx; obtain ⟨⟨t, r, s, z⟩, err⟩ := D; simp only at htx HDC HS; clear hr hf; by_cases he : err = 0
 · subst he; by_cases hp : ((t % 2 : Nat) : Int) = k
   · have HSS : Hid (S = (⟨t, r, s, z⟩, true)) := by show _ = _; rw [HS.out, if_pos ⟨by rfl, hp⟩]
     have HPL := fun w => kept (place_any t r s z w htx)
     rw [hp] at HPL; clear hp htx; go_enter Tryz.func133, Tryz.ntmps133; go_wp2_with fail
     with_reducible refine (HDC _).out.mono ?_
     rintro e w1 ⟨rfl, hb⟩; have HQ1 := kept ((Blk.new w 88 #[.int .u64 0, .int .i64 0, .int .i64 0, .int .i64 0]).below hb (by simp)); have HB1 := kept (bel_to hb ((Below.refl _ w).alloc (Nat.le_refl _) _)); have HN1 := kept (fou_new w1 88 t r s z); clear hb; go_wp2_with fail
     with_reducible refine (HPL _).out.mono ?_
     rintro e w2 ⟨rfl, hb⟩; obtain ⟨n0, n1, n2, n3⟩ := HN1.out.keeps (Keeps.of_below hb); have hq2 := (HQ1.out.alloc _).below hb (HQ1.out.alloc _).lt; have HB2 := kept (bel_to hb (HB1.out.alloc HB1.out.size _)); have hne : w1.heap.size ≠ w.heap.size := by have := HQ1.out.lt; omega
     obtain ⟨e0, e1, e2, e3⟩ := hq2.fou; have f0 := hq2.frozen 0; have f1 := hq2.frozen 1; have f2 := hq2.frozen 2; have f3 := hq2.frozen 3; have HQ2 := kept hq2; clear hb hq2; go_wp2; have hx := store4 HQ2.out HB2.out (Nat.le_refl _) (.int .u64 (t : Int)) (.int .i64 r) (.int .i64 s) (.int .i64 z); generalize (((w2.setCell ⟨w.heap.size, 0, none⟩ (.int .u64 (t : Int))).setCell ⟨w.heap.size, 1, none⟩ (.int .i64 r)).setCell ⟨w.heap.size, 2, none⟩ (.int .i64 s)).setCell ⟨w.heap.size, 3, none⟩ (.int .i64 z) = X at hx ⊢; obtain ⟨v0, v1, v2, v3, hbx⟩ := hx; exact bodyPost_ret (v := .tuple #[.agg #[.int .u64 (t : Int), .int .i64 r, .int .i64 s, .int .i64 z], .bool true]) (by simp [results, Tryz.results133, go_sem, v0, v1, v2, v3]) rfl ⟨by rw [HSS.out], hbx⟩
   · have HSS : Hid (S = (zeroMt, false)) := by show _ = _; rw [HS.out, if_neg (fun h => hp h.2)]
     have HPL := fun w => kept (place_any t r s z w htx)
     have hg : (((t % 2 : Nat) : Int) != k) = true := by rw [bne_iff_ne]; exact hp
     generalize ((t % 2 : Nat) : Int) = v at HPL hg; clear hp htx; go_enter Tryz.func133, Tryz.ntmps133; go_wp2_with fail
     with_reducible refine (HDC _).out.mono ?_
     rintro e w1 ⟨rfl, hb⟩; have HQ1 := kept ((Blk.new w 88 #[.int .u64 0, .int .i64 0, .int .i64 0, .int .i64 0]).below hb (by simp)); have HB1 := kept (bel_to hb ((Below.refl _ w).alloc (Nat.le_refl _) _)); clear hb; go_wp2_with fail
     with_reducible refine (HPL _).out.mono ?_
     rintro e w2 ⟨rfl, hb⟩; have hq2 := (HQ1.out.alloc _).below hb (HQ1.out.alloc _).lt; have HB2 := kept (bel_to hb (HB1.out.alloc HB1.out.size _)); obtain ⟨e0, e1, e2, e3⟩ := hq2.fou; have f0 := hq2.frozen 0; have f1 := hq2.frozen 1; have f2 := hq2.frozen 2; have f3 := hq2.frozen 3; have HQ2 := kept hq2; clear hb hq2; go_wp2; have hx := store4 HQ2.out HB2.out (Nat.le_refl _) (.int .u64 0) (.int .i64 0) (.int .i64 0) (.int .i64 0); generalize (((w2.setCell ⟨w.heap.size, 0, none⟩ (.int .u64 0)).setCell ⟨w.heap.size, 1, none⟩ (.int .i64 0)).setCell ⟨w.heap.size, 2, none⟩ (.int .i64 0)).setCell ⟨w.heap.size, 3, none⟩ (.int .i64 0) = X at hx ⊢; obtain ⟨v0, v1, v2, v3, hbx⟩ := hx; exact bodyPost_ret (v := .tuple #[zeroV5, .bool false]) (by simp [results, Tryz.results133, go_sem, v0, v1, v2, v3]) rfl ⟨by rw [HSS.out]; rfl, hbx⟩
 · have HSS : Hid (S = (zeroMt, false)) := by show _ = _; rw [HS.out, if_neg (fun h => he h.1)]
   have hg : (err != 0) = true := by rw [bne_iff_ne]; exact he
   clear he htx; go_enter Tryz.func133, Tryz.ntmps133; go_wp2_with fail
   with_reducible refine (HDC _).out.mono ?_
   rintro e w1 ⟨rfl, hb⟩; have hq1 := ((Blk.new w 88 #[.int .u64 0, .int .i64 0, .int .i64 0, .int .i64 0]).below hb (by simp))
   have HB1 := kept (bel_to hb ((Below.refl _ w).alloc (Nat.le_refl _) _)); have HB2 := fun o => kept (HB1.out.alloc HB1.out.size o)
   have HQ2 := fun o => kept (hq1.alloc o)
   have hne : w.heap.size ≠ w1.heap.size := by have := hq1.lt; omega
   obtain ⟨e0, e1, e2, e3⟩ := (hq1.alloc (.cells #[.int .u64 (t : Int), .int .i64 r, .int .i64 s, .int .i64 z] 88)).fou; have f0 := (hq1.alloc (.cells #[.int .u64 (t : Int), .int .i64 r, .int .i64 s, .int .i64 z] 88)).frozen 0; have f1 := (hq1.alloc (.cells #[.int .u64 (t : Int), .int .i64 r, .int .i64 s, .int .i64 z] 88)).frozen 1; have f2 := (hq1.alloc (.cells #[.int .u64 (t : Int), .int .i64 r, .int .i64 s, .int .i64 z] 88)).frozen 2; have f3 := (hq1.alloc (.cells #[.int .u64 (t : Int), .int .i64 r, .int .i64 s, .int .i64 z] 88)).frozen 3; clear hb hq1; go_wp2; have hx := store4 (HQ2 (.cells #[.int .u64 (t : Int), .int .i64 r, .int .i64 s, .int .i64 z] 88)).out (HB2 _).out (Nat.le_refl _) (.int .u64 0) (.int .i64 0) (.int .i64 0) (.int .i64 0); generalize ((((w1.alloc (.cells #[.int .u64 (t : Int), .int .i64 r, .int .i64 s, .int .i64 z] 88)).setCell ⟨w.heap.size, 0, none⟩ (.int .u64 0)).setCell ⟨w.heap.size, 1, none⟩ (.int .i64 0)).setCell ⟨w.heap.size, 2, none⟩ (.int .i64 0)).setCell ⟨w.heap.size, 3, none⟩ (.int .i64 0) = X at hx ⊢; obtain ⟨v0, v1, v2, v3, hbx⟩ := hx; exact bodyPost_ret (v := .tuple #[zeroV5, .bool false]) (by simp [results, Tryz.results133, go_sem, v0, v1, v2, v3]) rfl ⟨by rw [HSS.out]; rfl, hbx⟩
theorem choose_m (A B : Option Addr) (n m c d : Nat) (xs ys : List UInt8) (w : World) (hr : Rd w A n xs) (hc : n ≤ c) (hs : Rd w B m ys) (hd : m ≤ d) (hf : Fours w) :
 Calls Tryz.prog 82 #[.slice A n c, .slice B m d] w fun e w' => e = .returned (.tuple #[(chooseM xs ys).1.val, .int .i64 (chooseM xs ys).2]) ∧ Below w.heap.size w w' := by
 have HE := fun o => kept (stand_m A n c xs 0 (w.alloc o) (hr.alloc o) hc (hf.alloc o))
 have HR := kept hs; have HF := kept hf; have HO := fun W h1 h2 => kept (stand_m B m d ys 1 W h1 hd h2)
 have HC : Hid (chooseM xs ys = if (standM ys 1).2 && (!(standM xs 0).2 || decide ((standM xs 0).1.txn < (standM ys 1).1.txn)) then ((standM ys 1).1, 0) else if (standM xs 0).2 then ((standM xs 0).1, 0) else (zeroMt, 7)) := rfl; generalize chooseM xs ys = C at HC; generalize standM xs 0 = E at HE HC; generalize standM ys 1 = O at HO HC; obtain ⟨⟨t, r, s, z⟩, eb⟩ := E; obtain ⟨⟨t', r', s', z'⟩, ob⟩ := O; simp only at HE HO HC; clear hr hs hf; have h3 : ∃ k : Nat, k < 3 ∧ ((k = 0 ∧ ob = true ∧ (eb = false ∨ (eb = true ∧ t < t')) ∧ Hid (C = (⟨t', r', s', z'⟩, 0))) ∨ (k = 1 ∧ eb = true ∧ (ob = false ∨ (ob = true ∧ ¬ t < t')) ∧ Hid (C = (⟨t, r, s, z⟩, 0))) ∨ (k = 2 ∧ eb = false ∧ ob = false ∧ Hid (C = (zeroMt, 7)))) := by
  have hC := HC.out; cases eb <;> cases ob
  · exact ⟨2, by omega, .inr (.inr ⟨rfl, rfl, rfl, kept (by simpa using hC)⟩)⟩
  · exact ⟨0, by omega, .inl ⟨rfl, rfl, .inl rfl, kept (by simpa using hC)⟩⟩
  · exact ⟨1, by omega, .inr (.inl ⟨rfl, rfl, .inl rfl, kept (by simpa using hC)⟩)⟩
  · by_cases hlt : t < t'
    · exact ⟨0, by omega, .inl ⟨rfl, rfl, .inr ⟨rfl, hlt⟩, kept (by simpa [hlt] using hC)⟩⟩
    · exact ⟨1, by omega, .inr (.inl ⟨rfl, rfl, .inr ⟨rfl, hlt⟩, kept (by simpa [hlt] using hC)⟩)⟩
 clear HC; obtain ⟨_, _, h3⟩ := h3; go_enter Tryz.func82, Tryz.ntmps82; go_wp2_with fail
 with_reducible refine (HE _).out.mono ?_
 rintro e w1 ⟨rfl, hb⟩; have HQ1 := kept ((Blk.new w 88 #[.int .u64 0, .int .i64 0, .int .i64 0, .int .i64 0]).below hb (by simp)); have HB1 := kept (bel_to hb ((Below.refl _ w).alloc (Nat.le_refl _) _)); have HN1 := kept (fou_new w1 88 t r s z); have HB1a := fun o => kept (HB1.out.alloc HB1.out.size o)
 have HOO := fun o => kept (HO (w1.alloc o) (HR.out.below (HB1a o).out) (HF.out.below (HB1a o).out)).out
 clear hb; go_wp2_with fail
 with_reducible refine (HOO _).out.mono ?_
 rintro e w2 ⟨rfl, hb⟩; have hq2 := (HQ1.out.alloc _).below hb (HQ1.out.alloc _).lt; have hn2 := HN1.out.keeps (Keeps.of_below hb); have hb2 := bel_to hb (HB1a _).out; have hlt1 : w1.heap.size < w2.heap.size := by have := hb.size; rw [World.size_alloc] at this; omega
 have hne1 : w.heap.size ≠ w1.heap.size := by have := HQ1.out.lt; omega
 have hne2 : w.heap.size ≠ w2.heap.size := by have := HQ1.out.lt; omega
 have hne3 : w1.heap.size ≠ w2.heap.size := by omega
 have HBX := fun o => kept (hb2.alloc hb2.size o)
 have HQX := fun o => kept (hq2.alloc o)
 obtain ⟨n0, n1, n2, n3⟩ := hn2.keeps (Keeps.alloc w2 (.cells #[.int .u64 (t' : Int), .int .i64 r', .int .i64 s', .int .i64 z'] 88)); obtain ⟨e0, e1, e2, e3⟩ := (HQX (.cells #[.int .u64 (t' : Int), .int .i64 r', .int .i64 s', .int .i64 z'] 88)).out.fou; have f0 := (HQX (.cells #[.int .u64 (t' : Int), .int .i64 r', .int .i64 s', .int .i64 z'] 88)).out.frozen 0; have f1 := (HQX (.cells #[.int .u64 (t' : Int), .int .i64 r', .int .i64 s', .int .i64 z'] 88)).out.frozen 1; have f2 := (HQX (.cells #[.int .u64 (t' : Int), .int .i64 r', .int .i64 s', .int .i64 z'] 88)).out.frozen 2; have f3 := (HQX (.cells #[.int .u64 (t' : Int), .int .i64 r', .int .i64 s', .int .i64 z'] 88)).out.frozen 3; clear hb hq2 hn2 hb2; rcases h3 with ⟨rfl, rfl, hw, HCC⟩ | ⟨rfl, rfl, hw, HCC⟩ | ⟨rfl, rfl, rfl, HCC⟩
 · rcases hw with rfl | ⟨rfl, hlt⟩
   all_goals
    go_wp2; have hx := store4 (HQX (.cells #[.int .u64 (t' : Int), .int .i64 r', .int .i64 s', .int .i64 z'] 88)).out (HBX _).out (Nat.le_refl _) (.int .u64 (t' : Int)) (.int .i64 r') (.int .i64 s') (.int .i64 z'); generalize ((((w2.alloc (.cells #[.int .u64 (t' : Int), .int .i64 r', .int .i64 s', .int .i64 z'] 88)).setCell ⟨w.heap.size, 0, none⟩ (.int .u64 (t' : Int))).setCell ⟨w.heap.size, 1, none⟩ (.int .i64 r')).setCell ⟨w.heap.size, 2, none⟩ (.int .i64 s')).setCell ⟨w.heap.size, 3, none⟩ (.int .i64 z') = X at hx ⊢; obtain ⟨v0, v1, v2, v3, hbx⟩ := hx; exact bodyPost_ret (v := .tuple #[.agg #[.int .u64 (t' : Int), .int .i64 r', .int .i64 s', .int .i64 z'], .int .i64 0]) (by simp [results, Tryz.results82, go_sem, v0, v1, v2, v3]) rfl ⟨by rw [HCC.out], hbx⟩
 · rcases hw with rfl | ⟨rfl, hlt⟩
   all_goals
    go_wp2; have hx := store4 (HQX (.cells #[.int .u64 (t' : Int), .int .i64 r', .int .i64 s', .int .i64 z'] 88)).out (HBX _).out (Nat.le_refl _) (.int .u64 (t : Int)) (.int .i64 r) (.int .i64 s) (.int .i64 z); generalize ((((w2.alloc (.cells #[.int .u64 (t' : Int), .int .i64 r', .int .i64 s', .int .i64 z'] 88)).setCell ⟨w.heap.size, 0, none⟩ (.int .u64 (t : Int))).setCell ⟨w.heap.size, 1, none⟩ (.int .i64 r)).setCell ⟨w.heap.size, 2, none⟩ (.int .i64 s)).setCell ⟨w.heap.size, 3, none⟩ (.int .i64 z) = X at hx ⊢; obtain ⟨v0, v1, v2, v3, hbx⟩ := hx; exact bodyPost_ret (v := .tuple #[.agg #[.int .u64 (t : Int), .int .i64 r, .int .i64 s, .int .i64 z], .int .i64 0]) (by simp [results, Tryz.results82, go_sem, v0, v1, v2, v3]) rfl ⟨by rw [HCC.out], hbx⟩
 · go_wp2; have hx := store4 (HQX (.cells #[.int .u64 (t' : Int), .int .i64 r', .int .i64 s', .int .i64 z'] 88)).out (HBX _).out (Nat.le_refl _) (.int .u64 0) (.int .i64 0) (.int .i64 0) (.int .i64 0); generalize ((((w2.alloc (.cells #[.int .u64 (t' : Int), .int .i64 r', .int .i64 s', .int .i64 z'] 88)).setCell ⟨w.heap.size, 0, none⟩ (.int .u64 0)).setCell ⟨w.heap.size, 1, none⟩ (.int .i64 0)).setCell ⟨w.heap.size, 2, none⟩ (.int .i64 0)).setCell ⟨w.heap.size, 3, none⟩ (.int .i64 0) = X at hx ⊢; obtain ⟨v0, v1, v2, v3, hbx⟩ := hx; exact bodyPost_ret (v := .tuple #[zeroV5, .int .i64 7]) (by simp [results, Tryz.results82, go_sem, v0, v1, v2, v3]) rfl ⟨by rw [HCC.out]; rfl, hbx⟩
end Go.Proofs.YtblbhhijddcbeaaGreatDoor
end
