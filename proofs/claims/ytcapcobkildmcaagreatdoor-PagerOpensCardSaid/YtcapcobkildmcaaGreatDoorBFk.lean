/- Fk Fq -/
import Derived.Test.YtcapcobkildmcaaGreatDoorBFr6
import Derived.Test.YtcapcobkildmcaaGreatDoorBDk
section
/-
 A set of numbers kept in a map from numbers to bools; free's List beside two such maps, and what its methods leave of them.
-/
namespace Go.Proofs.YtcapcobkildmcaaGreatDoor
open Go.ChangeShapes Go.WideShapes Go.ChangeAt Go.RowKit
open Go.ChangeMaps Go.MapKept
set_option linter.unusedVariables false
section
variable {w w' : World} {m : Nat} {X Y : List Int}
end
section
variable {ops : Array Oper} {rest : List Oper} {op : Oper} {a : Act} {w : World} {Q : Exit → Act → World → Prop} {m : Nat} {X : List Int}
end
section
variable {a w w' : World} {r ms mh : Nat} {s : FSt} {X Y : List Int}
end
section
variable {a w w' w'' : World} {r ms mh it cnt cnt' : Nat} {s : FSt} {X Y Z : List Int} {lf : Int → Bool}
end
end Go.Proofs.YtcapcobkildmcaaGreatDoor
end
section
namespace Go.Proofs.YtcapcobkildmcaaGreatDoor
open Go.ChangeShapes Go.WideShapes Go.ChangeAt Go.RowKit
set_option linter.unusedVariables false
set_option linter.unusedSimpArgs false
set_option maxRecDepth 100000
set_option maxHeartbeats 16000000
def AllK (w : World) (G : List Int) (v : Int) (k : Nat) (A : Option Addr) (m c : Nat) (wr : World) : Prop :=
 OwI wr A m c (idx G v k) ∧ Below w.heap.size w wr ∧ ∀ g, blkOf A = some g → w.heap.size ≤ g
theorem RdI.one (w : World) (x : Int) : RdI (w.alloc (.cells #[.int .i64 x] 3)) (some ⟨w.heap.size, 0, none⟩) 1 [x] := ⟨rfl, fun _ => ⟨w.heap.size, 0, rfl, fun j hj => by
 have hb := Blk.new w 3 #[.int .i64 x]; obtain rfl : j = 0 := by simp at hj; omega
 rw [Nat.zero_add, hb.cell]
 rfl⟩⟩
theorem rall_any (r g : Nat) (G : List Int) (v : Int) (w : World) (h : Rf w r g G) (hn : G.length ≤ 1024) :
 Calls Tryz.prog 45 #[.pointer (some ⟨r, 0, none⟩), .int .i64 v] w fun e w' => ∃ A m c, e = .returned (.slice A m c) ∧ Hid (AllK w G v G.length A m c w') := by
 have HF := kept h; have HB0 : Hid (Below w.heap.size w (w.alloc (.cells #[] 3))) := kept ((Below.refl _ _).alloc (Nat.le_refl _) _); have c0 := (h.below HB0.out).c0; have H0 : Hid (AllK w G v 0 (some ⟨w.heap.size, 0, none⟩) 0 0 (w.alloc (.cells #[] 3))) := kept ⟨OwI.none_new w, HB0.out, fun j hj => by cases hj; exact Nat.le_refl _⟩; obtain ⟨n, hnn⟩ : ∃ n, G.length = n := ⟨_, rfl⟩
 have HN := kept hnn; rw [hnn] at c0 hn ⊢; clear h hnn; go_enter Tryz.func45, Tryz.ntmps45; go_wp2; clear c0; go_loopw [14, 5] (fun i o wr => ∃ (k m c : Nat) (A : Option Addr), k ≤ n ∧ i = .int .i64 (k : Int) ∧ o = .slice A m c ∧ Hid (AllK w G v k A m c wr)) (fun i _ _ => n - (intOf i).toNat)
 case atStart => exact ⟨0, 0, 0, _, Nat.zero_le _, rfl, rfl, H0⟩
 case round =>
  obtain ⟨k, m, c, A, hk, rfl, rfl, HA⟩ := hrel; clear H0; by_cases hlt : k < n
  · have hkG : k < G.length := by rw [HN.out]; exact hlt
    have hc := (HF.out.below HA.out.2.1).at_ hkG; have HD := kept (getD_at hkG); generalize G[k] = u at hc HD; clear hkG; by_cases hv : u = v
    · have HX : Hid (idx G v (k + 1) = idx G v k ++ [(k : Int)]) := kept (by rw [idx, HD.out, if_pos hv]); subst hv; have HM : Hid (m + 1 ≤ 1000000) := kept (by
       have h1 := idx_length G u k; have h2 := HA.out.1.1
       omega)
      go_wp2_with (first | (at_builtin; refine wpList_append_i rfl (.tmp 22) (.tmp 24) rfl rfl rfl (HA.out.1.alloc _) (RdI.one wr (k : Int)) HM.out ?_; intro A' c' w4 h4 t4 g4; have HE : Hid (AllK w G u (k + 1) A' (m + 1) c' w4) := kept ⟨by rw [HX.out]; exact h4, Turned.only_new (HA.out.2.1.alloc HA.out.2.1.size _) t4 (HA.out.2.1.alloc HA.out.2.1.size _).size HA.out.2.2, fun j hj => by rcases g4 j hj with h | h; exact HA.out.2.2 j h; exact Nat.le_trans (HA.out.2.1.alloc HA.out.2.1.size _).size h⟩; clear h4 t4 g4 hc))
      go_roundw
      case rel => exact ⟨k + 1, m + 1, c', A', by omega, by go_num, rfl, HE⟩
      case measure => simp [intOf]; omega
    · have hb : (u == v) = false := by simpa using hv
      have HE : Hid (AllK w G v (k + 1) A m c wr) := kept ⟨by rw [idx, HD.out, if_neg hv, List.append_nil]; exact HA.out.1, HA.out.2⟩; clear hv; go_wp2; clear hc hb; go_roundw
      case rel => exact ⟨k + 1, m, c, A, by omega, by go_num, rfl, HE⟩
      case measure => simp [intOf]; omega
  · obtain rfl : k = n := by omega
    go_wp2; go_ret; exact ⟨A, m, c, rfl, HA⟩
theorem make_ints (n : Nat) (hn : n ≤ 1024) : ∃ Z : Obj, Z = .cells (ints (List.replicate n 0)).toArray 3 (0, 0) ∧ ∀ w : World, (Instr.makeSlice 60 (.int .i64 (n : Int)) (.int .i64 (n : Int))).run Tryz.prog w = .ok (.slice (some ⟨w.heap.size, 0, none⟩) n n) (w.alloc Z) := by
 refine ⟨_, rfl, fun w => ?_⟩; obtain ⟨i, hi, hz, hsz, hby⟩ := info_parts intinfo; have hmk := run_make (P := Tryz.prog) w 60 3 i (.int .i64 0) Tryz.underlying60 hi hz .i64 .i64 (n : Int) (n : Int) (by omega) (by omega) (by rw [hby]; omega) (by omega); rw [hsz] at hmk; have e : madeCells (Value.int .i64 0).cells ((n : Int).toNat * 1) = (ints (List.replicate n 0)).toArray := by
  apply Array.ext
  · rw [size_madeCells, List.size_toArray, ints_length, List.length_replicate, Nat.mul_one, Int.toNat_natCast]
  · intro j h1 h2; have e1 : (ints (List.replicate n 0)).toArray[j] = .int .i64 0 := by simp [ints]
    rw [e1]; simp [madeCells, Value.cells, Nat.mod_one]
 rw [e, Int.toNat_natCast] at hmk; exact hmk
def NewG (w : World) (z : Int) (Z : List Int) (k : Nat) (wr : World) : Prop :=
 ∃ G, Rf wr (w.heap.size + 1) w.heap.size G ∧ SimG ⟨z, addAll [] (Z.take k), []⟩ G ∧ Below w.heap.size w wr ∧ (Z.take k).Nodup
def NewD (w w' : World) (z : Int) (Z : List Int) (P : Value) : Prop :=
 Below w.heap.size w w' ∧ (newErr z Z = 0 → ∃ r g G, P = .pointer (some ⟨r, 0, none⟩) ∧ Rf w' r g G ∧ SimG ⟨z, addAll [] Z, []⟩ G ∧ w.heap.size ≤ r ∧ w.heap.size ≤ g)
theorem NewD.no {w w' : World} {z : Int} {Z : List Int} {P : Value} (hb : Below w.heap.size w w') (h : newErr z Z ≠ 0) : NewD w w' z Z P := ⟨hb, fun e => absurd e h⟩
theorem SimG.zeros (m : Nat) : SimG ⟨(m : Int), [], []⟩ (List.replicate m 0) := ⟨by simp, fun i hi => by simp [sg]⟩
theorem rfnew_any (z : Int) (A : Option Addr) (n c : Nat) (Z : List Int) (w : World) (h : RdI w A n Z) (hn : n ≤ 1000000) :
 Calls Tryz.prog 95 #[.int .i64 z, .slice A n c] w fun e w' => ∃ P, e = .returned (.tuple #[P, .int .i64 (newErr z Z)]) ∧ Hid (NewD w w' z Z P) := by
 by_cases h8 : z < 8
 · have e : newErr z Z = 1 := by unfold newErr; rw [if_pos (.inl h8)]
   have HB : Hid (∀ P, NewD w w z Z P) := kept fun P => NewD.no (Below.refl _ _) (by rw [e]; decide)
   rw [e]; clear h hn e; go_enter Tryz.func95, Tryz.ntmps95; go_wp2; go_returns; exact ⟨_, rfl, kept (HB.out _)⟩
 by_cases h1024 : 1024 < z
 · have e : newErr z Z = 1 := by unfold newErr; rw [if_pos (.inr h1024)]
   have HB : Hid (∀ P, NewD w w z Z P) := kept fun P => NewD.no (Below.refl _ _) (by rw [e]; decide)
   rw [e]; clear h hn e; go_enter Tryz.func95, Tryz.ntmps95; go_wp2; go_returns; exact ⟨_, rfl, kept (HB.out _)⟩
 obtain ⟨m, rfl⟩ := Int.eq_ofNat_of_zero_le (show 0 ≤ z by omega); have hm1 : 8 ≤ m := by omega
 have hm2 : m ≤ 1024 := by omega
 have HE : Hid (newErr (m : Int) Z = if Z.all (finB (m : Int)) then (if Z.Nodup then 0 else 8) else 2) := kept (by unfold newErr; rw [if_neg (by omega)]); have HR := kept h; obtain ⟨Zb, hZb, hmk⟩ := make_ints m hm2; obtain ⟨W1, hW1⟩ : ∃ W1, W1 = (w.alloc Zb).alloc (.cells #[.slice (some ⟨w.heap.size, 0, none⟩) m m] 213) := ⟨_, rfl⟩
 have hs0 : (w.alloc Zb).heap.size = w.heap.size + 1 := by simp
 have HB1 : Hid (Below w.heap.size w W1) := kept (by rw [hW1]; exact ((Below.refl _ _).alloc (Nat.le_refl _) _).alloc (by rw [hs0]; omega) _); have HF1 : Hid (Rf W1 (w.heap.size + 1) w.heap.size (List.replicate m 0)) := kept (by
  rw [hW1]; refine ⟨by omega, ?_, ?_⟩
  · have hb := Blk.new (w.alloc Zb) 213 #[.slice (some ⟨w.heap.size, 0, none⟩) m m]; rw [hs0] at hb; rw [List.length_replicate]; exact hb
  · have hb := Blk.new w 3 (ints (List.replicate m 0)).toArray; rw [hZb]; exact hb.alloc _)
 have H0 : Hid (NewG w (m : Int) Z 0 W1) := kept ⟨_, HF1.out, SimG.zeros m, HB1.out, by simp⟩; have HW1 := kept hW1; clear h hZb; go_enter Tryz.func95, Tryz.ntmps95; go_wp2; rw [← HW1.out]; clear hW1 hmk HF1; go_loopw [23] (fun i wr => ∃ k : Nat, k ≤ n ∧ i = .int .i64 (k : Int) ∧ Hid (∀ x ∈ Z.take k, finB (m : Int) x = true) ∧ wr = W1) (fun i _ => n - (intOf i).toNat)
 case atStart => exact ⟨0, Nat.zero_le _, rfl, kept (fun x hx => by simp at hx), rfl⟩
 case round =>
  obtain ⟨k, hk, rfl, HA, rfl⟩ := hrel; by_cases hlt : k < n
  · have hkZ : k < Z.length := by rw [HR.out.1]; exact hlt
    obtain ⟨b, o, rfl, hc⟩ := (HR.out.below HB1.out).at_ hlt; have HT := kept (take_snoc hkZ); have HM := kept (List.getElem_mem hkZ); generalize Z[k] = x at hc HT HM; clear hkZ; by_cases hx2 : x < 2
    · have HX : Hid (newErr (m : Int) Z = 2) := kept (by rw [HE.out, if_neg (by
       simp only [List.all_eq_true]; intro h; have := h x HM.out; simp [finB] at this
       omega)])
      go_wp2; go_returns; rw [HX.out]; exact ⟨_, rfl, kept (NewD.no HB1.out (by rw [HX.out]; decide))⟩
    · by_cases hxm : (m : Int) ≤ x
      · have HX : Hid (newErr (m : Int) Z = 2) := kept (by rw [HE.out, if_neg (by
         simp only [List.all_eq_true]; intro h; have := h x HM.out; simp [finB] at this
         omega)])
        go_wp2; go_returns; rw [HX.out]; exact ⟨_, rfl, kept (NewD.no HB1.out (by rw [HX.out]; decide))⟩
      · have HE2 : Hid (∀ y ∈ Z.take (k + 1), finB (m : Int) y = true) := kept (by
         rw [HT.out]; intro y hy; rcases List.mem_append.1 hy with hy | hy
         · exact HA.out y hy
         · rw [List.mem_singleton.1 hy]; simp [finB]; omega)
        go_wp2; clear hc; go_roundw
        case rel => exact ⟨k + 1, by omega, by go_num, HE2, by first | trivial | rfl⟩
        case measure => simp [intOf]; omega
  · obtain rfl : k = n := by omega
    have HALL : Hid (∀ x ∈ Z, finB (m : Int) x = true) := kept (fun x hx => HA.out x (by rw [List.take_of_length_le (by rw [HR.out.1]; exact Nat.le_refl _)]; exact hx)); have HE2 : Hid (newErr (m : Int) Z = if Z.Nodup then 0 else 8) := kept (by rw [HE.out, if_pos (List.all_eq_true.2 HALL.out)]); clear HA HE hlt hk; go_wp2; go_loopw [37] (fun i wx => ∃ j : Nat, j ≤ k ∧ i = .int .i64 (j : Int) ∧ Hid (NewG w (m : Int) Z j wx)) (fun i _ => k - (intOf i).toNat)
    case atStart => exact ⟨0, Nat.zero_le _, rfl, H0⟩
    case round =>
     obtain ⟨j, hj, rfl, hrel⟩ := hrel; obtain ⟨G, hF, hS, hb, hnd⟩ := hrel.out; have HF := kept hF; have HS := kept hS; have HB := kept hb; have HND := kept hnd; clear hF hS hb hnd hrel H0; by_cases hlt : j < k
     · have hjZ : j < Z.length := by rw [HR.out.1]; exact hlt
       obtain ⟨b, o, rfl, hc⟩ := (HR.out.below HB.out).at_ hlt; have HT := kept (take_snoc hjZ); have HAT := kept (addAll_take [] Z j hjZ); have HM := kept (List.getElem_mem hjZ); generalize Z[j] = x at hc HT HM HAT; have hxb : 2 ≤ x ∧ x < (m : Int) := by have := HALL.out x HM.out; simpa [finB] using this
       obtain ⟨p, rfl⟩ := Int.eq_ofNat_of_zero_le (show 0 ≤ x by omega); have hlen : G.length = m := by have h1 : (G.length : Int) = (m : Int) := HS.out.1; omega
       have hpm : p < m := by omega
       have hpG : p < G.length := by rw [hlen]; exact hpm
       have hcg := HF.out.at_ hpG; have c0 := HF.out.c0; have fz := HF.out.fz p; rw [hlen] at c0; have HSP := kept (HS.out.2 p hpG); have HMY := kept (may_eq (s := ⟨(m : Int), addAll [] (Z.take j), []⟩) (x := (p : Int))); have HXB := kept hxb; clear hjZ; by_cases hv : G[p] = 0
       · have hm0 : (⟨(m : Int), addAll [] (Z.take j), []⟩ : FSt).may (p : Int) = 0 := by rw [HMY.out, if_pos hxb, if_pos (by rw [← HSP.out]; exact hv)]
         have hno := may_zero hm0; have hgv : (⟨(m : Int), addAll [] (Z.take j), []⟩ : FSt).give (p : Int) = ⟨(m : Int), addAll [] (Z.take (j + 1)), []⟩ := by
          unfold FSt.give; rw [if_pos hm0, HAT.out]
         have HEE : Hid (NewG w (m : Int) Z (j + 1) (wr.setCell ⟨w.heap.size, p, none⟩ (.int .i64 1))) := kept ⟨G.set p 1, HF.out.put p 1, by
          have h1 := HS.out.give hm0; rw [hgv, Int.toNat_natCast] at h1; exact h1, Turned.only_new HB.out ((Turned.refl _ (fun j => j = w.heap.size)).setCell (fun _ => rfl) _) HB.out.size (fun i hi => by rw [hi]; exact Nat.le_refl _), by
          rw [HT.out]; refine nodup_snoc.2 ⟨HND.out, fun hx => hno.2.1 ?_⟩; simpa [mem_addAll] using hx⟩
         rw [hv] at hcg; clear hm0 hno hgv hv hxb HSP hpG; go_wp2; clear hc hcg c0 fz; go_roundw
         case rel => exact ⟨j + 1, by omega, by go_num, HEE⟩
         case measure => simp [intOf]; omega
       · have HX : Hid (newErr (m : Int) Z = 8) := kept (by
          rw [HE2.out, if_neg]; intro hnd; have h1 := (nodup_snoc.1 (HT.out ▸ (List.Sublist.nodup (List.take_sublist (j + 1) Z) hnd))).2; refine hv ?_; rw [HSP.out]; exact sg_zero.2 ⟨fun hx => h1 (by simpa [mem_addAll] using hx), fun hx => by simp at hx⟩)
         have hbv : (G[p] != 0) = true := by simpa using hv
         clear hv HSP; generalize G[p] = u at hcg hbv; clear hpG hxb; go_wp2; go_returns; rw [HX.out]; exact ⟨_, rfl, kept (NewD.no HB.out (by rw [HX.out]; decide))⟩
     · obtain rfl : j = k := by omega
       have ht : Z.take j = Z := List.take_of_length_le (by rw [HR.out.1]; exact Nat.le_refl _); have HX : Hid (newErr (m : Int) Z = 0) := kept (by rw [HE2.out, if_pos]; have := HND.out; rwa [ht] at this); have HSS := kept HS.out; rw [ht] at HSS; clear ht; go_wp2; go_returns; rw [HX.out]; exact ⟨_, rfl, kept ⟨HB.out, fun _ => ⟨_, _, G, rfl, HF.out, HSS.out, by omega, Nat.le_refl _⟩⟩⟩
end Go.Proofs.YtcapcobkildmcaaGreatDoor
end
