/-
  terrierlaw04.Of and few: a page as the document has it; little enough.
-/
import Derived.Test.YtfgpkgenahlikaaDoorLv
import Derived.Test.YtfgpkgenahlikaaDoorOw
namespace Go.Proofs.YtfgpkgenahlikaaDoor
open Go.ChangeShapes Go.WideShapes Go.ChangeAt Go.RowKit
set_option linter.unusedVariables false
set_option linter.unusedSimpArgs false

/-- Behind an append to a row of one's own, and the store of it into field f of block q. -/
theorem ow_step {Λ α : Type} {K : Sort' Λ α} {w0 wr X w4 : World} {q f : Nat} {T e : TypeId} {cs : List Value} {A' : Option Addr} {n' c' : Nat} {J' : List α} {F : Nat → Prop} (hF : F q) (hq : q < w0.heap.size) (ho : Only w0 wr q) (hb : Blk wr q T cs) (hX : Below wr.heap.size wr X)
    (h4 : Ow K w4 w0.heap.size e F A' n' c' J') (hb4 : Below w0.heap.size X w4) (v : Value) :
    (Only w0 (w4.setCell ⟨q, f, none⟩ v) q ∧ Blk (w4.setCell ⟨q, f, none⟩ v) q T (cs.set f v) ∧ Ow K (w4.setCell ⟨q, f, none⟩ v) w0.heap.size e F A' n' c' J') ∧ w4.cell? ⟨q, f, none⟩ = cs[f]? ∧ w4.frozen? ⟨q, f, none⟩ = false := by
  have hoX : Only w0 X q := ho.trans (Only.of_below hX)
  have ho4 : Only w0 w4 q := ⟨hb4.os.trans hoX.os, hb4.tape.trans hoX.tape, hb4.output.trans hoX.output, Nat.le_trans hoX.size hb4.size, fun k hk hn => (hb4.block k hk).trans (hoX.block k hk hn)⟩
  have h3 : Blk w4 q T cs := (hb4.block q hq).trans (hb.below hX hb.lt)
  exact ⟨⟨ho4.setCell f v, h3.set_ f v, h4.turn (r := q) ((Only.refl w4 q).setCell f v) (.inl hF)⟩, h3.cell f, h3.frozen f⟩
theorem Only.box {w0 w : World} {q : Nat} (h : Only w0 w q) {p : Nat} {i : Nat} {v : Value} (hp : p ≠ q) (hc : w0.cell? ⟨p, i, none⟩ = some v) : w.cell? ⟨p, i, none⟩ = some v := h.cell_ hp hc
theorem Only.rdItems {w0 w w1 : World} {q : Nat} {A : Option Addr} {n : Nat} {I : List Itm} (h : RdItems w0 A n I) (hb : Below w0.heap.size w0 w) (k : Only w w1 q) (hq : w0.heap.size ≤ q) : RdItems w1 A n I := h.below (k.below hb hb.size hq)
theorem refItemInfo : (Tryd.prog.info? 70).map (fun i => (i.zero, i.size, i.bytes)) = some (some (.agg #[.slice none 0 0, .slice none 0 0, .int .i64 0, .int .i64 0]), kItem.size, 64) := by kernel_rfl
theorem refKidInfo : (Tryd.prog.info? 71).map (fun i => (i.zero, i.size, i.bytes)) = some (some (.agg #[.slice none 0 0, .int .i64 0]), kKid.size, 32) := by kernel_rfl
theorem new_cells4 (w : World) (v0 v1 v2 v3 : Value) (t : TypeId) (j : Nat) (u : Value) (h : [v0, v1, v2, v3][j]? = some u) : (w.alloc (.cells #[v0, v1, v2, v3] t)).cell? ((⟨w.heap.size, 0, none⟩ : Addr).add j) = some u := by
  rw [add_at, Nat.zero_add, cell_of_row _ w.heap.size j _ _ _ (heap_alloc_new w _)]
  simpa using h
theorem new_cells2 (w : World) (v0 v1 : Value) (t : TypeId) (j : Nat) (u : Value) (h : [v0, v1][j]? = some u) : (w.alloc (.cells #[v0, v1] t)).cell? ((⟨w.heap.size, 0, none⟩ : Addr).add j) = some u := by
  rw [add_at, Nat.zero_add, cell_of_row _ w.heap.size j _ _ _ (heap_alloc_new w _)]
  simpa using h
/-- The state of Of's loops: the page that is being made. -/
def OfS1 (w0 : World) (q : Nat) (I : List Itm) (k1 : Int) (k2 : Int) (k3 : Int) (s3 s4 : Value) (k : Nat) (wr : World) : Prop :=
  ∃ A c, Only w0 wr q ∧ Blk wr q 34 [.int .i64 k1, .int .u64 k2, .int .i64 k3, .slice A k c, .slice none 0 0, s3, s4] ∧ Ow kItem wr w0.heap.size 70 (fun g => g = q ∨ g + 1 = q) A k c (I.take k)
def OfS2 (w0 : World) (q : Nat) (J : List Kd) (k1 : Int) (k2 : Int) (k3 : Int) (s1 s3 s4 : Value) (k : Nat) (wr : World) : Prop :=
  ∃ A c, Only w0 wr q ∧ Blk wr q 34 [.int .i64 k1, .int .u64 k2, .int .i64 k3, s1, .slice A k c, s3, s4] ∧ Ow kKid wr w0.heap.size 71 (fun g => g = q ∨ g + 1 = q) A k c (J.take k)
abbrev OfW (w : World) (kind txn next : Int) (a1 : Option Addr) (n1 c1 : Nat) (a2 : Option Addr) (n2 c2 : Nat) (a3 : Option Addr) (n3 c3 : Nat) (a4 : Option Addr) (n4 c4 : Nat) : World :=
  ((w.alloc (.cells #[.int .i64 kind, .int .u64 txn, .int .i64 next, .slice a1 n1 c1, .slice a2 n2 c2, .slice a3 n3 c3, .slice a4 n4 c4] 28)).alloc (.cells #[.int .i64 0, .int .u64 0, .int .i64 0, .slice none 0 0, .slice none 0 0, .slice none 0 0, .slice none 0 0] 34)).alloc (.cells #[.int .i64 kind, .int .u64 txn, .int .i64 next, .slice none 0 0, .slice none 0 0, .slice a3 n3 c3, .slice a4 n4 c4] 34)
structure OfF (w W0 : World) (kind txn next : Int) (a2 : Option Addr) (n2 c2 : Nat) (s3 s4 : Value) : Prop where
  size : W0.heap.size = w.heap.size + 1 + 1 + 1
  below : Below w.heap.size w W0
  q : Blk W0 (w.heap.size + 1 + 1) 34 [.int .i64 kind, .int .u64 txn, .int .i64 next, .slice none 0 0, .slice none 0 0, s3, s4]
  r : Blk W0 (w.heap.size + 1) 34 [.int .i64 0, .int .u64 0, .int .i64 0, .slice none 0 0, .slice none 0 0, .slice none 0 0, .slice none 0 0]
  p4 : W0.cell? ⟨w.heap.size, 4, none⟩ = some (.slice a2 n2 c2)
theorem ofW_facts (w : World) (kind txn next : Int) (a1 : Option Addr) (n1 c1 : Nat) (a2 : Option Addr) (n2 c2 : Nat) (a3 : Option Addr) (n3 c3 : Nat) (a4 : Option Addr) (n4 c4 : Nat) : OfF w (OfW w kind txn next a1 n1 c1 a2 n2 c2 a3 n3 c3 a4 n4 c4) kind txn next a2 n2 c2 (.slice a3 n3 c3) (.slice a4 n4 c4) := by
  refine ⟨by simp, ((((Below.refl _ w).alloc (Nat.le_refl _) _).alloc (by simp) _).alloc (by simp; omega) _), ?_, ?_, ?_⟩
  · have := Blk.new ((w.alloc (.cells #[.int .i64 kind, .int .u64 txn, .int .i64 next, .slice a1 n1 c1, .slice a2 n2 c2, .slice a3 n3 c3, .slice a4 n4 c4] 28)).alloc (.cells #[.int .i64 0, .int .u64 0, .int .i64 0, .slice none 0 0, .slice none 0 0, .slice none 0 0, .slice none 0 0] 34)) 34 #[.int .i64 kind, .int .u64 txn, .int .i64 next, .slice none 0 0, .slice none 0 0, .slice a3 n3 c3, .slice a4 n4 c4]
    rw [World.size_alloc, World.size_alloc] at this
    exact this
  · have := (Blk.new (w.alloc (.cells #[.int .i64 kind, .int .u64 txn, .int .i64 next, .slice a1 n1 c1, .slice a2 n2 c2, .slice a3 n3 c3, .slice a4 n4 c4] 28)) 34 #[.int .i64 0, .int .u64 0, .int .i64 0, .slice none 0 0, .slice none 0 0, .slice none 0 0, .slice none 0 0]).alloc (.cells #[.int .i64 kind, .int .u64 txn, .int .i64 next, .slice none 0 0, .slice none 0 0, .slice a3 n3 c3, .slice a4 n4 c4] 34)
    rw [World.size_alloc] at this
    exact this
  · have := ((Blk.new w 28 #[.int .i64 kind, .int .u64 txn, .int .i64 next, .slice a1 n1 c1, .slice a2 n2 c2, .slice a3 n3 c3, .slice a4 n4 c4]).alloc (.cells #[.int .i64 0, .int .u64 0, .int .i64 0, .slice none 0 0, .slice none 0 0, .slice none 0 0, .slice none 0 0] 34)).alloc (.cells #[.int .i64 kind, .int .u64 txn, .int .i64 next, .slice none 0 0, .slice none 0 0, .slice a3 n3 c3, .slice a4 n4 c4] 34)
    exact this.cell 4
set_option maxRecDepth 100000 in
set_option maxHeartbeats 2000000 in
theorem of_any (l : Lay) (P : Pg) (w : World) (h : RdPg w l P) (m1 : l.n1 ≤ 1000) (m2 : l.n2 ≤ 1000) :
    Calls Tryd.prog 13 #[l.val] w fun e w' => ∃ l' : Lay, e = .returned l'.val ∧ RdPg w' l' P ∧ l'.n1 = l.n1 ∧ l'.n2 = l.n2 ∧ l'.n3 = l.n3 ∧ l'.n4 = l.n4 ∧ Below w.heap.size w w' := by
  have HP := kept h
  have HI := kept h.items
  have HK := kept h.kids
  have HL1 := kept h.n1
  have HL2 := kept h.n2
  obtain ⟨I, hI⟩ : ∃ I, P.items = I := ⟨_, rfl⟩
  obtain ⟨J, hJ⟩ : ∃ J, P.kids = J := ⟨_, rfl⟩
  rw [hI] at HI HL1
  rw [hJ] at HK HL2
  have HEI := kept hI
  have HEJ := kept hJ
  clear h hI hJ
  obtain ⟨kind, txn, next, a1, n1, c1, a2, n2, c2, a3, n3, c3, a4, n4, c4⟩ := l
  simp only at HI HK HL1 HL2 m1 m2
  go_enter Tryd.func13, Tryd.ntmps13
  go_wp2
  have HF := kept (ofW_facts w kind txn next a1 n1 c1 a2 n2 c2 a3 n3 c3 a4 n4 c4)
  unfold OfW at HF
  generalize (((w.alloc (.cells #[.int .i64 kind, .int .u64 txn, .int .i64 next, .slice a1 n1 c1, .slice a2 n2 c2, .slice a3 n3 c3, .slice a4 n4 c4] 28)).alloc (.cells #[.int .i64 0, .int .u64 0, .int .i64 0, .slice none 0 0, .slice none 0 0, .slice none 0 0, .slice none 0 0] 34)).alloc (.cells #[.int .i64 kind, .int .u64 txn, .int .i64 next, .slice none 0 0, .slice none 0 0, .slice a3 n3 c3, .slice a4 n4 c4] 34)) = W0 at HF ⊢
  obtain ⟨q, hqe⟩ : ∃ q, w.heap.size + 1 + 1 = q := ⟨_, rfl⟩
  have HQ := kept hqe
  have hs := HF.out.size
  have HSZ := kept hs
  rw [hqe]
  have HS0 : Hid (OfS1 W0 q I kind txn next (.slice a3 n3 c3) (.slice a4 n4 c4) 0 W0) := kept ⟨none, 0, Only.refl _ _, by rw [← hqe]; exact HF.out.q, Ow.nil_ _⟩
  have hq0 : q < W0.heap.size := by omega
  clear hqe hs
  go_loopw [22] (fun i wr => ∃ k : Nat, k ≤ n1 ∧ i = .int .i64 k ∧ Hid (OfS1 W0 q I kind txn next (.slice a3 n3 c3) (.slice a4 n4 c4) k wr)) (fun i _ => n1 - (intOf i).toNat)
  case atStart => exact ⟨0, by omega, rfl, HS0⟩
  case round =>
    obtain ⟨k, hk, rfl, HST⟩ := hrel
    by_cases hlt : k < n1
    · obtain ⟨A, c, ho, hb, how⟩ := HST.out
      have hqw : w.heap.size ≤ q := by have := HSZ.out; have := HQ.out; omega
      have hbw : Below w.heap.size w wr := ho.below HF.out.below HF.out.below.size hqw
      have hbX : ∀ o1 o2, Below wr.heap.size wr ((wr.alloc o1).alloc o2) := fun o1 o2 => (((Below.refl _ wr).alloc (Nat.le_refl _) _).alloc (by simp) _)
      obtain ⟨bb, o, L, rfl, hrd, hc0, hc1, hc2, hc3⟩ := HI.out.at_ hlt
      have hki : k < I.length := by rw [HL1.out]; exact hlt
      have hc0 := cell_below hbw hc0
      have hc1 := cell_below hbw hc1
      have hc2 := cell_below hbw hc2
      have hc3 := cell_below hbw hc3
      have hq3 : ∀ o, (wr.alloc o).cell? ⟨q, 3, none⟩ = some (.slice A k c) := fun o => (World.cell?_alloc_lt wr o ⟨q, 3, none⟩ hb.lt).trans (hb.cell 3)
      have HTK := kept (List.take_succ_eq_append_getElem hki)
      have HBX := kept hbX
      have HBW := kept hbw
      have HBL := kept hb
      have HON := kept ho
      have HOW := kept how
      have HRD := kept hrd
      generalize I[k]'hki = y at HTK HRD
      obtain ⟨ka, kn, kc, va, vn, vc, size, more⟩ := L
      simp only at hc0 hc1 hc2 hc3
      clear hrd hbX hbw hb ho how HST
      go_wp2_with (first | (at_builtin; refine wpList_append_ow (K := kItem) (F := fun g => g = q ∨ g + 1 = q) rfl (.tmp 27) (.tmp 37) 31 rfl Tryd.underlying31 refItemInfo rfl rfl (HOW.out.below (HBX.out _ _)) ⟨wr.heap.size + 1, 0, none⟩ 1 ⟨ka, kn, kc, va, vn, vc, size, more⟩ y rfl (fun j u hu => by have := new_cells4 (wr.alloc (.cells #[.slice ka kn kc, .slice va vn vc, .int .i64 size, .int .i64 more] 67)) (.slice ka kn kc) (.slice va vn vc) (.int .i64 size) (.int .i64 more) 70 j u hu; rw [World.size_alloc] at this; exact this) (HRD.out.below (below_to (HBX.out _ _) HBW.out)) (fun g e => kItem.fresh HRD.out (Nat.le_trans HF.out.below.size (HOW.out.lt e).1)) (fun g e => kItem.fresh HRD.out (by have := HQ.out; omega)) (fun g e => Nat.lt_of_le_of_lt (by omega) (Nat.lt_of_lt_of_le HBL.out.lt (HBX.out _ _).size)) (by unfold maxLen; omega) (by omega) (Nat.le_trans HON.out.size (HBX.out _ _).size) ?_; intro A4 c4' w4 how4 hb4 hk4; have HSP := kept (ow_step (F := fun g => g = q ∨ g + 1 = q) (.inl rfl) hq0 HON.out HBL.out (HBX.out _ _) how4 hb4 (f := 3) (.slice A4 (k + 1) c4')); have hs1 : w4.cell? ⟨q, 3, none⟩ = some (.slice A k c) := HSP.out.2.1; have hs2 := HSP.out.2.2; clear how4 hb4 hk4))
      have HNX : Hid (OfS1 W0 q I kind txn next (.slice a3 n3 c3) (.slice a4 n4 c4) (k + 1) (w4.setCell ⟨q, 3, none⟩ (.slice A4 (k + 1) c4'))) := kept ⟨A4, c4', HSP.out.1.1, HSP.out.1.2.1, by rw [HTK.out]; exact HSP.out.1.2.2⟩
      go_roundw
      case rel => exact ⟨k + 1, by omega, by go_num, HNX⟩
      case measure => simp [intOf]; omega
    · obtain rfl : k = n1 := by omega
      obtain ⟨A1, d1, ho, hb, how⟩ := HST.out
      rw [← HL1.out, List.take_length] at how
      rw [HL1.out] at how
      have hp4 : wr.cell? ⟨w.heap.size, 4, none⟩ = some (.slice a2 n2 c2) := ho.cell_ (by have := HSZ.out; have := HQ.out; show w.heap.size ≠ q; omega) HF.out.p4
      have HS20 : Hid (OfS2 wr q J kind txn next (.slice A1 k d1) (.slice a3 n3 c3) (.slice a4 n4 c4) 0 wr) := kept ⟨none, 0, Only.refl _ _, hb, Ow.nil_ _⟩
      have hqr : q < wr.heap.size := hb.lt
      have HON := kept ho
      have HOW := kept how
      clear ho hb how HST
      go_wp2
      go_loopw [44] (fun i wx => ∃ j : Nat, j ≤ n2 ∧ i = .int .i64 j ∧ Hid (OfS2 wr q J kind txn next (.slice A1 k d1) (.slice a3 n3 c3) (.slice a4 n4 c4) j wx)) (fun i _ => n2 - (intOf i).toNat)
      case atStart => exact ⟨0, by omega, rfl, HS20⟩
      case round =>
        obtain ⟨j, hj, rfl, HS2⟩ := hrel
        rename World => wx
        have hqw : w.heap.size ≤ q := by have := HSZ.out; have := HQ.out; omega
        have hbr : Below w.heap.size w wr := HON.out.below HF.out.below HF.out.below.size hqw
        by_cases hlt : j < n2
        · obtain ⟨A, c, ho, hb, how⟩ := HS2.out
          have hbw : Below w.heap.size w wx := ho.below hbr hbr.size hqw
          have hbX : ∀ o1 o2, Below wx.heap.size wx ((wx.alloc o1).alloc o2) := fun o1 o2 => (((Below.refl _ wx).alloc (Nat.le_refl _) _).alloc (by simp) _)
          obtain ⟨bb, o, L, rfl, hrd, hc0, hc1⟩ := HK.out.at_ hlt
          have hki : j < J.length := by rw [HL2.out]; exact hlt
          have hc0 := cell_below hbw hc0
          have hc1 := cell_below hbw hc1
          have hq4 : ∀ o, (wx.alloc o).cell? ⟨q, 4, none⟩ = some (.slice A j c) := fun o => (World.cell?_alloc_lt wx o ⟨q, 4, none⟩ hb.lt).trans (hb.cell 4)
          have HTK := kept (List.take_succ_eq_append_getElem hki)
          have HBX := kept hbX
          have HBW := kept hbw
          have HBL := kept hb
          have HON2 := kept ho
          have HOW2 := kept how
          have HRD := kept hrd
          have HBR := kept hbr
          generalize J[j]'hki = y at HTK HRD
          obtain ⟨ka, kn, kc, page⟩ := L
          simp only at hc0 hc1
          clear hrd hbX hbw hb ho how HS2 hbr
          go_wp2_with (first | (at_builtin; refine wpList_append_ow (K := kKid) (F := fun g => g = q ∨ g + 1 = q) rfl (.tmp 49) (.tmp 55) 32 rfl Tryd.underlying32 refKidInfo rfl rfl (HOW2.out.below (HBX.out _ _)) ⟨wx.heap.size + 1, 0, none⟩ 1 ⟨ka, kn, kc, page⟩ y rfl (fun j u hu => by have := new_cells2 (wx.alloc (.cells #[.slice ka kn kc, .int .i64 page] 69)) (.slice ka kn kc) (.int .i64 page) 71 j u hu; rw [World.size_alloc] at this; exact this) (HRD.out.below (below_to (HBX.out _ _) HBW.out)) (fun g e => kKid.fresh HRD.out (Nat.le_trans HBR.out.size (HOW2.out.lt e).1)) (fun g e => kKid.fresh HRD.out (by have := HQ.out; omega)) (fun g e => Nat.lt_of_le_of_lt (by omega) (Nat.lt_of_lt_of_le HBL.out.lt (HBX.out _ _).size)) (by unfold maxLen; omega) (by omega) (Nat.le_trans HON2.out.size (HBX.out _ _).size) ?_; intro A4 c4' w4 how4 hb4 hk4; have HSP := kept (ow_step (F := fun g => g = q ∨ g + 1 = q) (.inl rfl) hqr HON2.out HBL.out (HBX.out _ _) how4 hb4 (f := 4) (.slice A4 (j + 1) c4')); have hs1 : w4.cell? ⟨q, 4, none⟩ = some (.slice A j c) := HSP.out.2.1; have hs2 := HSP.out.2.2; clear how4 hb4 hk4))
          have HNX : Hid (OfS2 wr q J kind txn next (.slice A1 k d1) (.slice a3 n3 c3) (.slice a4 n4 c4) (j + 1) (w4.setCell ⟨q, 4, none⟩ (.slice A4 (j + 1) c4'))) := kept ⟨A4, c4', HSP.out.1.1, HSP.out.1.2.1, by rw [HTK.out]; exact HSP.out.1.2.2⟩
          go_roundw
          case rel => exact ⟨j + 1, by omega, by go_num, HNX⟩
          case measure => simp [intOf]; omega
        · obtain rfl : j = n2 := by omega
          obtain ⟨A2, d2, ho, hb, how⟩ := HS2.out
          rw [← HL2.out, List.take_length] at how
          rw [HL2.out] at how
          have hbl := hb
          have hr7 : Blk wx (w.heap.size + 1) 34 [.int .i64 0, .int .u64 0, .int .i64 0, .slice none 0 0, .slice none 0 0, .slice none 0 0, .slice none 0 0] := by
            have hne : w.heap.size + 1 ≠ q := by have := HQ.out; omega
            have h1 : Blk wr (w.heap.size + 1) 34 [.int .i64 0, .int .u64 0, .int .i64 0, .slice none 0 0, .slice none 0 0, .slice none 0 0, .slice none 0 0] := (HON.out.block _ HF.out.r.lt (fun e => hne (Option.some.inj e))).trans HF.out.r
            exact (ho.block _ h1.lt (fun e => hne (Option.some.inj e))).trans h1
          have HOL : Hid (Only wr wx q) := kept ho
          have HOW3 := kept how
          have g0 : wx.cell? ⟨q, 0, none⟩ = some (.int .i64 kind) := hbl.cell 0
          have g1 : wx.cell? ⟨q, 1, none⟩ = some (.int .u64 txn) := hbl.cell 1
          have g2 : wx.cell? ⟨q, 2, none⟩ = some (.int .i64 next) := hbl.cell 2
          have g3 : wx.cell? ⟨q, 3, none⟩ = some (.slice A1 k d1) := hbl.cell 3
          have g4 : wx.cell? ⟨q, 4, none⟩ = some (.slice A2 j d2) := hbl.cell 4
          have g5 : wx.cell? ⟨q, 5, none⟩ = some (.slice a3 n3 c3) := hbl.cell 5
          have g6 : wx.cell? ⟨q, 6, none⟩ = some (.slice a4 n4 c4) := hbl.cell 6
          have e0 : wx.cell? ⟨w.heap.size + 1, 0, none⟩ = some (.int .i64 0) := hr7.cell 0
          have e1 : wx.cell? ⟨w.heap.size + 1, 1, none⟩ = some (.int .u64 0) := hr7.cell 1
          have e2 : wx.cell? ⟨w.heap.size + 1, 2, none⟩ = some (.int .i64 0) := hr7.cell 2
          have e3 : wx.cell? ⟨w.heap.size + 1, 3, none⟩ = some (.slice none 0 0) := hr7.cell 3
          have e4 : wx.cell? ⟨w.heap.size + 1, 4, none⟩ = some (.slice none 0 0) := hr7.cell 4
          have e5 : wx.cell? ⟨w.heap.size + 1, 5, none⟩ = some (.slice none 0 0) := hr7.cell 5
          have e6 : wx.cell? ⟨w.heap.size + 1, 6, none⟩ = some (.slice none 0 0) := hr7.cell 6
          have f0 := hr7.frozen 0
          have f1 := hr7.frozen 1
          have f2 := hr7.frozen 2
          have f3 := hr7.frozen 3
          have f4 := hr7.frozen 4
          have f5 := hr7.frozen 5
          have f6 := hr7.frozen 6
          have HR7 := kept hr7
          clear ho hb how HS2 hbl hr7 hbr
          go_wp2
          have HB7 := ((((((HR7.out.set_ 0 (.int .i64 kind)).set_ 1 (.int .u64 txn)).set_ 2 (.int .i64 next)).set_ 3 (.slice A1 k d1)).set_ 4 (.slice A2 j d2)).set_ 5 (.slice a3 n3 c3)).set_ 6 (.slice a4 n4 c4)
          have HO7 : Only wx _ (w.heap.size + 1) := (((((((Only.refl wx (w.heap.size + 1)).setCell 0 (.int .i64 kind)).setCell 1 (.int .u64 txn)).setCell 2 (.int .i64 next)).setCell 3 (.slice A1 k d1)).setCell 4 (.slice A2 j d2)).setCell 5 (.slice a3 n3 c3)).setCell 6 (.slice a4 n4 c4)
          simp only [List.set_cons_zero, List.set_cons_succ] at HB7
          generalize (((((((wx.setCell ⟨w.heap.size + 1, 0, none⟩ (.int .i64 kind)).setCell ⟨w.heap.size + 1, 1, none⟩ (.int .u64 txn)).setCell ⟨w.heap.size + 1, 2, none⟩ (.int .i64 next)).setCell ⟨w.heap.size + 1, 3, none⟩ (.slice A1 k d1)).setCell ⟨w.heap.size + 1, 4, none⟩ (.slice A2 j d2)).setCell ⟨w.heap.size + 1, 5, none⟩ (.slice a3 n3 c3)).setCell ⟨w.heap.size + 1, 6, none⟩ (.slice a4 n4 c4)) = W at HB7 HO7 ⊢
          have v0 : W.cell? ⟨w.heap.size + 1, 0, none⟩ = some (.int .i64 kind) := HB7.cell 0
          have v1 : W.cell? ⟨w.heap.size + 1, 1, none⟩ = some (.int .u64 txn) := HB7.cell 1
          have v2 : W.cell? ⟨w.heap.size + 1, 2, none⟩ = some (.int .i64 next) := HB7.cell 2
          have v3 : W.cell? ⟨w.heap.size + 1, 3, none⟩ = some (.slice A1 k d1) := HB7.cell 3
          have v4 : W.cell? ⟨w.heap.size + 1, 4, none⟩ = some (.slice A2 j d2) := HB7.cell 4
          have v5 : W.cell? ⟨w.heap.size + 1, 5, none⟩ = some (.slice a3 n3 c3) := HB7.cell 5
          have v6 : W.cell? ⟨w.heap.size + 1, 6, none⟩ = some (.slice a4 n4 c4) := HB7.cell 6
          have hbr2 : Below w.heap.size w wr := HON.out.below HF.out.below HF.out.below.size hqw
          have hbx : Below w.heap.size w wx := HOL.out.below hbr2 hbr2.size hqw
          have hbW : Below w.heap.size w W := HO7.below hbx hbx.size (by omega)
          have hi : RdItems W A1 k I := ((HOW.out.turn HOL.out (.inl (.inl rfl))).turn HO7 (.inl (.inr HQ.out))).items
          have hk2 : RdKids W A2 j J := (HOW3.out.turn HO7 (.inl (.inr HQ.out))).kids
          refine bodyPost_ret (v := .agg #[.int .i64 kind, .int .u64 txn, .int .i64 next, .slice A1 k d1, .slice A2 j d2, .slice a3 n3 c3, .slice a4 n4 c4]) (by simp [results, Tryd.results13, go_sem, v0, v1, v2, v3, v4, v5, v6]) rfl ⟨⟨kind, txn, next, A1, k, d1, A2, j, d2, a3, n3, c3, a4, n4, c4⟩, rfl, ?_, rfl, rfl, rfl, rfl, hbW⟩
          have hp := HP.out
          exact ⟨hp.kind, hp.txn, hp.next, by rw [HEI.out]; exact hi, by rw [HEJ.out]; exact hk2, hp.data.below hbW, hp.ids.below hbW, hp.t0, hp.t1, hp.b1, hp.b2, hp.b3, hp.b4⟩
end Go.Proofs.YtfgpkgenahlikaaDoor
