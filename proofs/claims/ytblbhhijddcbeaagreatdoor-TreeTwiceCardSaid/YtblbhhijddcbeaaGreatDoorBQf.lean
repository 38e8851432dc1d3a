/- Qf -/
import Derived.Test.YtblbhhijddcbeaaGreatDoorBQe
import Derived.Test.YtblbhhijddcbeaaGreatDoorBQb
import Derived.Test.YtblbhhijddcbeaaGreatDoorBWr
import Derived.Test.YtblbhhijddcbeaaGreatDoorBPh
import Derived.Test.YtblbhhijddcbeaaGreatDoorBRp
section
namespace Go.Proofs.YtblbhhijddcbeaaGreatDoor
open Go.ChangeShapes Go.WideShapes Go.ChangeAt Go.RowKit
set_option linter.unusedVariables false
set_option linter.unusedSimpArgs false
set_option maxRecDepth 100000
set_option maxHeartbeats 16000000
abbrev spareP (txn : Nat) (next : Int) (ids : List Int) : Pg := ⟨4, (txn : Int), next, [], [], [], ids⟩
def layC (txn : Nat) : List Int → List Int → List Sheet
 | [], _ => []
 | c :: r, I => (c, sealed (bodyOf (spareP txn (headN r) (I.take 59)))) :: layC txn r (I.drop 59)
theorem layC_length (txn : Nat) : ∀ (C I : List Int), (layC txn C I).length = C.length
 | [], _ => rfl
 | c :: r, I => by simp [layC, layC_length txn r]
theorem layC_get (txn : Nat) : ∀ (C I : List Int) (k : Nat) (hk : k < C.length), (layC txn C I)[k]? = some (C[k], sealed (bodyOf (spareP txn (headN (C.drop (k + 1))) ((I.drop (59 * k)).take 59))))
 | c :: r, I, 0, _ => by simp [layC]
 | c :: r, I, k + 1, hk => by
   have := layC_get txn r (I.drop 59) k (by simpa using hk); simp only [layC, List.getElem?_cons_succ, this, List.drop_drop, List.getElem_cons_succ, List.drop_succ_cons]; rw [show 59 + 59 * k = 59 * (k + 1) by omega]
theorem ordU_rising {J : List Int} (hJ : Rising J) (hb : ∀ x ∈ J, isPg x = true) : ∀ k, k ≤ J.length → ordU isPg cmpN J k = true
 | 0, _ => ordU_zero
 | 1, h => ordU_first (by omega) (hb _ (List.getElem_mem _))
 | k + 2, h => ordU_next (by omega) (ordU_rising hJ hb (k + 1) (by omega)) (hb _ (List.getElem_mem _)) (by
     have := List.pairwise_iff_getElem.1 hJ k (k + 1) (by omega) (by omega) (by omega); unfold cmpN; rw [if_pos this]
     omega)
theorem right_spare {txn : Nat} {next : Int} {J : List Int} (hn : next = 0 ∨ isPg next = true) (hJ : Rising J) (hb : ∀ x ∈ J, isPg x = true) (hl : J.length ≤ 59) : rightB (spareP txn next J) = true := by
 have h1 : ordU isPg cmpN J J.length = true := ordU_rising hJ hb _ (Nat.le_refl _); have h2 : usedN (spareP txn next J) = J.length * 4 := by simp [usedN]
 have h3 : ownB (spareP txn next J) = true := by simp [ownB]
 have h4 : nextB (spareP txn next J) = true := by
  unfold nextB; rcases hn with h | h
  · simp [h]
  · simp [h]
 have h5 : thingsB (spareP txn next J) = true := by
  have e1 : ordU itemOk cmpI [] 0 = true := ordU_zero; have e2 : ordU kidOk cmpK [] 0 = true := ordU_zero; simp [thingsB, h1, e1, e2]
 unfold rightB; rw [h2, h3, h4, h5]; simp; omega
theorem headN_ok {C : List Int} (h : ∀ x ∈ C, isPg x = true) : headN C = 0 ∨ isPg (headN C) = true := by
 cases C with
 | nil => exact .inl rfl
 | cons x r => exact .inr (h x (List.mem_cons_self ..))
theorem rd_spare {w : World} {A : Option Addr} {m c txn : Nat} {next : Int} {J : List Int} (h : RdI w A m J) (ht : txn < 18446744073709551616) (hm : m ≤ 1000000) :
 RdPg w ⟨4, txn, next, none, 0, 0, none, 0, 0, none, 0, 0, A, m, c⟩ (spareP txn next J) := by
 refine ⟨rfl, rfl, rfl, RdItems.nil_ _ _, RdKids.nil_ _ _, Rd.nil_ _ _, ?_, by simp, by simp; omega, by simp, by simp, by simp, by show m ≤ 140737488355328; omega⟩; refine ⟨h.1, fun h0 => ?_, fun b o e k hk => ?_⟩
 · obtain ⟨b, o, e, _⟩ := h.2 h0; exact ⟨b, o, e⟩
 · obtain ⟨b', o', e', hc⟩ := h.at_ (k := k) (by rw [← h.1]; exact hk); have e : A = some ⟨b, o, none⟩ := e; rw [e] at e'; cases e'; exact hc
theorem enc_spare (txn m c : Nat) (next : Int) (A : Option Addr) (J : List Int) (w : World) (h : RdI w A m J) (ht : txn < 18446744073709551616) (hn : next = 0 ∨ isPg next = true) (hJ : Rising J) (hb : ∀ x ∈ J, isPg x = true) (hl : m ≤ 59) (hF : Fours w) :
 Calls Tryz.prog 79 #[.agg #[.int .i64 4, .int .u64 (txn : Int), .int .i64 next, .slice none 0 0, .slice none 0 0, .slice none 0 0, .slice A m c]] w fun e w' => ∃ A' c', e = .returned (.tuple #[.slice A' 256 c', .int .i64 0]) ∧ Hid (OwB w' A' 256 c' (sealed (bodyOf (spareP txn next J)))) ∧ Below w.heap.size w w' := by
 refine (encode_right ⟨4, txn, next, none, 0, 0, none, 0, 0, none, 0, 0, A, m, c⟩ _ w (rd_spare h ht (by omega)) (right_spare hn hJ hb (by rw [h.1]; exact hl)) hF).mono ?_; rintro e w' ⟨A', c', he, ho, hbl⟩; exact ⟨A', c', he, kept (OwB.of_row ho), hbl⟩
theorem RdI.cut {w : World} {b o n c : Nat} {Z : List Int} (h : RdI w (some ⟨b, o, none⟩) n Z) {k : Nat} (hk : k ≤ n) (hc : n ≤ c) : RdI w (if c = k then some ⟨b, o, none⟩ else some ⟨b, o + k, none⟩) (n - k) (Z.drop k) := by
 by_cases hck : c = k
 · rw [if_pos hck]; have e : Z.drop k = [] := List.drop_of_length_le (by rw [h.1]; omega); rw [e, show n - k = 0 by omega]; exact RdI.nil_ _ _
 · rw [if_neg hck]; exact h.drop hk
def LyC (w : World) (txn : Nat) (C I : List Int) (k : Nat) (A' : Option Addr) (c' : Nat) (B' : Option Addr) (m' d' : Nat) (wr : World) : Prop :=
 SaySh w wr A' k c' ((layC txn C I).take k) ∧ RdI w B' m' (I.drop (59 * k)) ∧ m' ≤ d'
theorem LyC.next {w wr w1 w2 : World} {txn : Nat} {C I : List Int} {k : Nat} {A' A2 : Option Addr} {c' c2 : Nat} {B' B2 : Option Addr} {m' d' m2 d2 : Nat} (h : LyC w txn C I k A' c' B' m' d' wr) (hk : k < C.length) (x : Int) (hx : C[k] = x)
 (hb : Below wr.heap.size wr w1) (h2 : OwSh w2 A2 (k + 1) c2 ((layC txn C I).take k ++ [(x, sealed (bodyOf (spareP txn (headN (C.drop (k + 1))) ((I.drop (59 * k)).take 59))))])) (t : Turned w1 w2 (fun j => blkOf A' = some j)) (hg : ∀ g, blkOf A2 = some g → blkOf A' = some g ∨ w1.heap.size ≤ g)
 (hr : RdI w B2 m2 (I.drop (59 * (k + 1)))) (hm : m2 ≤ d2) : LyC w txn C I (k + 1) A2 c2 B2 m2 d2 w2 := by
 refine ⟨h.1.step hb ?_ t hg, hr, hm⟩; have := layC_get txn C I k hk; rw [List.take_add_one, this, hx]; exact h2
theorem below_ad (w : World) (o : Obj) : Below w.heap.size w (w.alloc o).drew := ((Below.refl _ w).alloc (Nat.le_refl _) o).drew
theorem below_da (w : World) (o : Obj) : Below w.heap.size w (w.drew.alloc o) := (Below.refl _ w).drew.alloc (Nat.le_refl _) o
theorem layChain_any (txn n c m d : Nat) (A B : Option Addr) (C I : List Int) (w : World) (hC : RdI w A n C) (hI : RdI w B m I) (hn : n ≤ 2000) (hm : m ≤ 2000) (hnc : n ≤ c) (hmd : m ≤ d) (ht : txn < 18446744073709551616) (hR : Rising I) (hb : ∀ x ∈ I, isPg x = true) (hCb : ∀ x ∈ C, isPg x = true) (hF : Fours w) :
 Calls Tryz.prog 43 #[.int .u64 (txn : Int), .slice A n c, .slice B m d] w fun e w' => ∃ A' c', e = .returned (.slice A' n c') ∧ Hid (SaySh w w' A' n c' (layC txn C I)) := by
 have HC := kept hC; have HCL := kept hC.1; have HR := kept hR; have HIB := kept hb; have HCB := kept hCb; have HFF := kept hF; have HML := kept hI.1; have H0 : Hid (LyC w txn C I 0 none 0 B m d w) := kept ⟨SaySh.nil_ w, by simpa using hI, hmd⟩; clear hC hI hR hb hCb hF hmd; go_enter Tryz.func43, Tryz.ntmps43; go_wp2; go_loopw [2, 7, 16] (fun ids out i wr => ∃ (k : Nat) (A' : Option Addr) (c' : Nat) (B' : Option Addr) (m' d' : Nat), k ≤ n ∧ i = .int .i64 (k : Int) ∧ out = .slice A' k c' ∧ ids = .slice B' m' d' ∧ Hid (LyC w txn C I k A' c' B' m' d' wr)) (fun _ _ i _ => n - (intOf i).toNat)
 case atStart => exact ⟨0, none, 0, B, m, d, Nat.zero_le _, rfl, rfl, rfl, H0⟩
 case round =>
  obtain ⟨k, A', c', B', m', d', hk, rfl, rfl, rfl, HL⟩ := hrel; clear H0; by_cases hlt : k < n
  · have HCW := kept (HC.out.below HL.out.1.2.1); obtain ⟨b, o, rfl, hc0⟩ := HCW.out.at_ hlt; have hkl : k < C.length := by rw [HCL.out]; exact hlt
    obtain ⟨x, hx⟩ : ∃ x, C[k] = x := ⟨_, rfl⟩
    have HX := kept hx; rw [hx] at hc0; have HRI := kept HL.out.2.1; have hm' : m' ≤ 2000 := by have h1 := HL.out.2.1.1; have h2 := HML.out; rw [List.length_drop] at h1; omega
    have hmd' : m' ≤ d' := HL.out.2.2; obtain ⟨q, hq, hq59, hqm⟩ : ∃ q : Nat, min (m' : Int) 59 = (q : Int) ∧ q ≤ 59 ∧ q ≤ m' ∧ (q < m' → q = 59) := by
     by_cases h : m' ≤ 59
     · exact ⟨m', by omega, h, Nat.le_refl _, fun h => absurd h (Nat.lt_irrefl _)⟩
     · exact ⟨59, by omega, Nat.le_refl _, by omega, fun _ => rfl⟩
    have HQ := kept hqm; have hqm1 := hqm.1; clear hqm hx; obtain ⟨P, hP⟩ : ∃ P, (if c = k + 1 then some (⟨b, o, none⟩ : Addr) else some ⟨b, o + (k + 1), none⟩) = P := ⟨_, rfl⟩
    have HFI := kept (fun (W : World) (hW : Below wr.heap.size wr W) => first_any P _ (c - (k + 1)) (C.drop (k + 1)) W (hP ▸ (HCW.out.below hW).cut (k := k + 1) (by omega) hnc)); have hwk : IntKind.i64.wrap ((k : Int) + 1) = (k : Int) + 1 := by simp [IntKind.wrap_i64]; omega
    have s0 : (0 : Int) ≤ (k : Int) + 1 := by omega
    have s1 : (k : Int) + 1 ≤ (n : Int) := by omega
    have s2 : (k : Int) + 1 ≤ (c : Int) := by omega
    have s3 : (n : Int) ≤ (c : Int) := by omega
    have s4 : (0 : Int) ≤ (q : Int) := by omega
    have s5 : (q : Int) ≤ (d' : Int) := by omega
    have s6 : (q : Int) ≤ (m' : Int) := by omega
    have s7 : (m' : Int) ≤ (d' : Int) := by omega
    go_wp2; have HRQ : Hid (RdI wr B' q ((I.drop (59 * k)).take 59)) := kept (by
     have h1 := HRI.out.take hqm1; have h2 : (I.drop (59 * k)).take q = (I.drop (59 * k)).take 59 := by
      have hl := HRI.out.1; rcases Nat.lt_or_ge q m' with h | h
      · rw [HQ.out.2 h]
      · rw [List.take_of_length_le (by omega), List.take_of_length_le (by omega)]
     rw [h2] at h1; exact h1.below HL.out.1.2.1)
    have HRN : Hid (RdI w (if d' = q then B' else Option.map (fun x => x.add q) B') (m' - q) (I.drop (59 * (k + 1))) ∧ m' - q ≤ d' - q) := kept (by
     have hl := HRI.out.1; have e : I.drop (59 * (k + 1)) = (I.drop (59 * k)).drop 59 := by rw [List.drop_drop]; congr 1
     rcases Nat.lt_or_ge q m' with h | h
     · have h9 := HQ.out.2 h; refine ⟨?_, by omega⟩; obtain ⟨b', o', e', _⟩ := HRI.out.2 (by omega); have hri := HRI.out.below (Below.refl _ w); rw [e'] at hri; rw [if_neg (by omega), e, e']; have h8 := hri.drop hqm1; rw [show (Option.map (fun x => x.add q) (some (⟨b', o', none⟩ : Addr))) = some ⟨b', o' + q, none⟩ by rw [Option.map_some, add_at]]; rw [h9] at h8 ⊢; exact h8
     · rw [e, show m' - q = 0 by omega, List.drop_of_length_le (by omega)]; exact ⟨RdI.nil_ _ _, by omega⟩)
    obtain ⟨P2, hP2⟩ : ∃ P2, (if d' = q then B' else Option.map (fun x => x.add q) B') = P2 := ⟨_, rfl⟩
    rw [hP2] at HRN; have HEN := kept (fun (W : World) (nx : Int) (hW : Below wr.heap.size wr W) (hnx : nx = 0 ∨ isPg nx = true) => enc_spare txn q d' nx B' _ W (HRQ.out.below hW) ht hnx (List.Pairwise.sublist ((List.take_sublist _ _).trans (List.drop_sublist _ _)) HR.out) (fun y hy => HIB.out y (List.mem_of_mem_drop (List.mem_of_mem_take hy))) hq59 (HFF.out.below (HL.out.1.2.1.trans (hW.mono HL.out.1.2.1.size)))); have HNX : Hid (headN (C.drop (k + 1)) = 0 ∨ isPg (headN (C.drop (k + 1))) = true) := kept (headN_ok fun y hy => HCB.out y (List.mem_of_mem_drop hy)); obtain ⟨nx, hnx⟩ : ∃ nx, headN (C.drop (k + 1)) = nx := ⟨_, rfl⟩
    have HNE := kept hnx; rw [hnx] at HFI HNX; clear HRQ HRI
    go_region_held3 (fun _ => True) (trivial) (first | (go_at_call 39; (with_reducible refine (HFI.out _ (Below.refl _ _).drew).mono ?_); rintro e w1 ⟨rfl, rfl⟩) | (go_at_call 39; (with_reducible refine (HFI.out _ (below_ad _ _)).mono ?_); rintro e w1 ⟨rfl, rfl⟩) | (go_at_call 39; (with_reducible refine (HFI.out _ (below_da _ _)).mono ?_); rintro e w1 ⟨rfl, rfl⟩))
    all_goals
     go_wp2_with (first | (go_at_call 79; (with_reducible refine (HEN.out _ nx (below_ad _ _) HNX.out).mono ?_); rintro e w2 ⟨A2, c2, rfl, h2, hb2⟩))
     have HS2 := kept (HL.out.1.1.below ((below_ad wr _).trans (hb2.mono (below_ad wr _).size))); have HB2 := kept ((below_ad wr _).trans (hb2.mono (below_ad wr _).size)); have HO2 := kept (RdSh.one w2.drew x A2 c2 _ (h2.out.below (Below.refl _ _).drew)); clear hb2 h2; refine wp_region_held_drew (S := (fun _ => True)) (by kernel_rfl) ?_ (fun hHeld => ?_)
     · ((try dsimp only); (all_goals trivial))
     refine hT 0 (some 39) ?_; refine hT 1 (some 40) ?_; refine hT 2 (some 41) ?_; refine hT 3 (some 42) ?_; refine hT 6 (some 45) ?_; refine hT 7 (some 46) ?_; refine hT 8 (some 47) ?_; refine hR 4 (fun K hK => ?_); go_simp; refine hK.out _ _ ?_ (fun hHeld => ?_)
     · ((try dsimp only); (all_goals trivial))
     clear hK K; (try simp only [Act.put, hA, h0, h1]); refine hR 5 (fun K hK => ?_)
     (refine wp_append_sh (.tmp 39) (.tmp 43) rfl rfl rfl (HS2.out.below (below_da _ _)) HO2.out (by omega) ?_; intro A4 c4 w4 h4 t4 g4; have HE : Hid (LyC w txn C I (k + 1) A4 c4 P2 (m' - q) (d' - q) w4) := kept (HL.out.next hkl x HX.out (HB2.out.trans ((below_da _ _).mono HB2.out.size)) (by rw [HNE.out]; exact h4) t4 g4 HRN.out.1 HRN.out.2); clear h4 t4 g4)
     refine hK.out _ _ ?_ (fun hHeld => ?_)
     · ((try dsimp only); (all_goals trivial))
     clear hK K; (try simp only [Act.put, hA, h0, h1]); refine hT 9 (some 7) ?_; refine hT 10 (some 2) ?_; refine wpAnyH_done (by kernel_rfl) ?_ _; go_wp2; go_roundw
     case rel => exact ⟨k + 1, A4, c4, P2, m' - q, d' - q, by omega, by go_num, rfl, rfl, HE⟩
     case measure => simp [intOf]; omega
  · obtain rfl : k = n := by omega
    have HE : Hid (SaySh w wr A' k c' (layC txn C I)) := kept (by
     have := HL.out.1
     rwa [List.take_of_length_le (by rw [layC_length, HCL.out]; exact Nat.le_refl _)] at this)
    go_wp2; go_ret; exact ⟨A', c', rfl, HE⟩
end Go.Proofs.YtblbhhijddcbeaaGreatDoor
end
