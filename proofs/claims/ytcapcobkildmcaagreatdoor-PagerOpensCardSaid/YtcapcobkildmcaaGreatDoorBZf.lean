/- Zf PagerOpensWalk -/
import Derived.Test.YtcapcobkildmcaaGreatDoorBZd
import Derived.Test.YtcapcobkildmcaaGreatDoorBQw
import Derived.Test.YtcapcobkildmcaaGreatDoorBRfg
import Derived.Test.YtcapcobkildmcaaGreatDoorBFr6
import Derived.Test.YtcapcobkildmcaaGreatDoorBRows3
section
namespace Go.Proofs.YtcapcobkildmcaaGreatDoor
open Go.ChangeShapes Go.WideShapes Go.ChangeAt Go.RowKit
set_option linter.unusedVariables false
set_option linter.unusedSimpArgs false
set_option maxRecDepth 100000
set_option maxHeartbeats 16000000
theorem pread_nil (id : Int) (w : World) : Calls Tryz.prog 42 #[.pointer none, .int .i64 id] w fun e w' => e = .returned (.tuple #[zeroV, .int .i64 1]) ∧ Below w.heap.size w w' := by
 go_enter Tryz.func42, Tryz.ntmps42; go_wp2_with (first | (go_at_call 96; (with_reducible refine (reaches_nil _ _).mono ?_); rintro e w' ⟨rfl, rfl⟩))
 go_returns; exact ⟨rfl, (Below.refl _ _).alloc (Nat.le_refl _) _⟩
theorem pcommit_nil (w : World) : Calls Tryz.prog 14 #[.pointer none] w fun e w' => e = .returned (.int .i64 1) ∧ w = w' := by
 go_enter Tryz.func14, Tryz.ntmps14; go_wp2_with (first | (go_at_call 49; (with_reducible refine (palive_nil _).mono ?_); rintro e w' ⟨rfl, rfl⟩))
 go_ret; exact ⟨rfl, rfl⟩
def Ob (W : World) (d : Dk) (base r : Nat) (S S2 : St) (w : World) : Prop := Dsk w d S ∧ (∃ R, RefD w base r R ∧ Sim S2 R) ∧ Below W.heap.size W w
section
variable {W w w' : World} {d : Dk} {base r : Nat} {S S' S2 : St}
theorem Ob.below (h : Ob W d base r S S2 w) (hb : Below w.heap.size w w') : Ob W d base r S S2 w' := by
 obtain ⟨h1, ⟨R, h2, h3⟩, h4⟩ := h; exact ⟨h1.below hb, ⟨R, h2.below hb, h3⟩, h4.trans (hb.mono h4.size)⟩
theorem Ob.left (h : Ob W d base r S S2 w) (hn : ∀ i, d.own i → W.heap.size ≤ i) (hl : Left w d S' w') : Ob W d base r S' S2 w' := by
 obtain ⟨h1, ⟨R, h2, h3⟩, h4⟩ := h; exact ⟨hl.1, ⟨R, h2.disk h1 hl.2, h3⟩, Turned.only_new h4 hl.2 h4.size hn⟩
theorem Ob.right (h : Ob W d base r S S2 w) (hb : W.heap.size ≤ base) (hl : RLeft w base r S' w') : Ob W d base r S S' w' := by
 obtain ⟨h1, _, h4⟩ := h; obtain ⟨R', k1, k2, k3⟩ := hl; exact ⟨h1.ref k3, ⟨R', k1, k2⟩, Turned.only_new h4 k3 h4.size (fun i hi => Nat.le_trans hb hi.1)⟩
end
theorem Gd.try_ {z j : Nat} {S : St} (h : Gd z j S) (p : Int) (xs : List UInt8) : Gd z (j + 1) (S.tryWrite p xs) := by
 by_cases hp : 0 ≤ p ∧ p < (z : Int)
 · exact (h.write hp.1 hp.2).2
 · obtain ⟨f, l, d⟩ := h; unfold St.tryWrite; rw [if_neg (by rw [f]; decide), if_pos (by rw [l]; omega)]; exact ⟨f, l, by omega⟩
theorem Gd.sync_ {z j : Nat} {S : St} (h : Gd z j S) : syncE S = 0 ∧ Gd z (j + 1) S.trySync := by
 obtain ⟨f, l, d⟩ := h; have hf : ¬ S.fuse = 0 := by rw [f]; decide
 refine ⟨by unfold syncE; rw [if_neg hf], ?_⟩; unfold St.trySync; rw [if_neg hf]; exact ⟨by simp [St.sync, St.count, f], (sync_len S).trans l, by show S.done + 1 ≤ j + 1; omega⟩
theorem bits_byte (y : UInt8) (x : Nat) (hx : x < 256) : Value.int .u8 (Go.bits .xor .u8 (y.toNat : Int) (x : Int)) = byteV (y ^^^ UInt8.ofNat x) := by
 rw [Go.u8_xor_nat y.toNat x y.toNat_lt hx]; unfold byteV; rw [UInt8.toNat_xor, UInt8.toNat_ofNat', Nat.mod_eq_of_lt (a := x) (by omega)]
theorem run_copy_new (w : World) (ty : TypeId) (b m c1 c2 : Nat) (t : TypeId) (zs xs : List UInt8) (B : Option Addr) (hb : Blk w b t (cellsOf zs)) (hz : zs.length = 256) (hr : Rd w B m xs) :
 ∃ v w', (Builtin.copy_ #[46, 46] ty #[.slice (some ⟨b, 0, none⟩) 256 c1, .slice B m c2]).run Tryz.prog w = .ok v w' ∧ Blk w' b t (cellsOf (xs.take 256 ++ zs.drop (min m 256))) ∧ Only w w' b := by
 have hl := hr.1; rcases Nat.eq_zero_or_pos m with h0 | h0
 · subst h0; obtain rfl : xs = [] := List.eq_nil_of_length_eq_zero hl; exact ⟨_, _, run_copy_none (P := Tryz.prog) w 46 46 ty 5 (some ⟨b, 0, none⟩) B 256 c1 0 c2 Tryz.underlying46 (by kernel_rfl) (by simp), by simpa using hb, Only.refl w b⟩
 · obtain ⟨ad, rfl, hc⟩ := hr.2 h0; have hcl : (cellsOf (xs.take 256)).length = min m 256 := by rw [cellsOf_length, List.length_take, hl]; omega
   have hrun := run_copy_row (P := Tryz.prog) w 46 46 ty 5 b 0 256 c1 ad m c2 (cellsOf zs).toArray t (cellsOf (xs.take 256)) Tryz.underlying46 (by kernel_rfl) hb (by rw [hcl]) (fun j v hv => by
    have hj : j < min m 256 := by have := (List.getElem?_eq_some_iff.1 hv).1; rwa [hcl] at this
    have := hr.cells rfl j v; apply this; rw [← hv]; simp only [cellsOf, List.getElem?_map, List.getElem?_take]; rw [if_pos (by omega)]) (by rw [hcl, List.size_toArray, cellsOf_length, hz]; omega) (cellsOf_one _)
   have e : (cellsOf zs).toArray.toList.take 0 ++ cellsOf (xs.take 256) ++ (cellsOf zs).toArray.toList.drop (0 + (cellsOf (xs.take 256)).length) = cellsOf (xs.take 256 ++ zs.drop (min m 256)) := by
    rw [hcl, List.take_zero, List.nil_append, Nat.zero_add, cellsOf_append]; simp [cellsOf]
   rw [e] at hrun; refine ⟨_, _, hrun, ?_, ⟨rfl, rfl, rfl, by simp [World.setRow], fun k _ hk => setRow_other w b k _ (fun e => hk (by rw [e]))⟩⟩; have := setRow_heap w b (cellsOf zs).toArray (cellsOf (xs.take 256 ++ zs.drop (min m 256))).toArray t (0, 0) hb; unfold Blk; simpa using this
end Go.Proofs.YtcapcobkildmcaaGreatDoor
end
section
/-
 The walk of the law PagerOpens.
-/
namespace Go.Proofs.YtcapcobkildmcaaGreatDoor.pagerOpens
open Go.ChangeShapes Go.WideShapes Go.ChangeAt Go.RowKit
set_option linter.unusedVariables false
set_option linter.unusedSimpArgs false
set_option maxRecDepth 100000 in
set_option maxHeartbeats 4000000 in
theorem walk_out (w : World) (hF : Fours w) (a : Int) (x : Int) (A1 : Option Addr) (n1 c1 : Nat) (A3 : Option Addr) (n3 c3 : Nat) (hs : 20 < n1 ∨ 300 < n3) (h1 : n1 ≤ maxLen) (h3 : n3 ≤ 140737488351232) :
 Calls Tryz.prog 9 #[.int .i64 a, .slice A1 n1 c1, .int .u8 x, .slice A3 n3 c3] w fun e w' => e = .returned (.bool true) ∧ Below w.heap.size w w' := by
 have HLV := kept (fun (W : World) (hb : Below w.heap.size w W) => lives_any W (hF.below hb)); unfold maxLen at h1; clear hF; by_cases k1 : 20 < n1
 · have hb1 : decide ((20 : Int) < (n1 : Int)) = true := by simp; omega
   have hz1 : 20 < n1 := by omega
   go_enter Tryz.func9, Tryz.ntmps9; go_wp2_with (first | (go_at_call 33; first | ((with_reducible refine (HLV.out w (Below.refl _ _)).mono ?_); rintro e w1 ⟨rfl, hb1⟩; have HB1 := kept hb1; clear hb1) | ((with_reducible refine (HLV.out _ HB1.out).mono ?_); rintro e w2 ⟨rfl, hb2⟩; have HB2 := kept hb2; clear hb2)))
   go_ret; exact ⟨rfl, HB1.out.trans (HB2.out.mono HB1.out.size)⟩
 · have hb1 : decide ((20 : Int) < (n1 : Int)) = false := by simp; omega
   have hb3 : decide ((300 : Int) < (n3 : Int)) = true := by simp; omega
   have hz3 : 300 < n3 := by omega
   go_enter Tryz.func9, Tryz.ntmps9; go_wp2_with (first | (go_at_call 33; first | ((with_reducible refine (HLV.out w (Below.refl _ _)).mono ?_); rintro e w1 ⟨rfl, hb1⟩; have HB1 := kept hb1; clear hb1) | ((with_reducible refine (HLV.out _ HB1.out).mono ?_); rintro e w2 ⟨rfl, hb2⟩; have HB2 := kept hb2; clear hb2)))
   go_ret; exact ⟨rfl, HB1.out.trans (HB2.out.mono HB1.out.size)⟩
set_option maxRecDepth 100000 in
set_option maxHeartbeats 16000000 in
theorem walked_law (w : World) (hF : Fours w) (a : Int) (x : Nat) (hx : x < 256) (A1 : Option Addr) (n1 c1 : Nat) (Z : List Int) (r1 : RdI w A1 n1 Z) (A3 : Option Addr) (n3 c3 : Nat) (xs : List UInt8) (r3 : Rd w A3 n3 xs) (hn20 : n1 ≤ 20) (hn300 : n3 ≤ 300) :
 Calls Tryz.prog 9 #[.int .i64 a, .slice A1 n1 c1, .int .u8 (x : Int), .slice A3 n3 c3] w fun e w' => e = .returned (.bool true) ∧ Below w.heap.size w w' := by
 have HLV := kept (lives_any w hF); have HFW := kept (fun (W : World) (hb : Below w.heap.size w W) => (hF.below hb : Fours W)); have HR1 := kept (fun (W : World) (hb : Below w.heap.size w W) => r1.below hb); have HR3 := kept (fun (W : World) (hb : Below w.heap.size w W) => r3.below hb); have hb1 : decide ((20 : Int) < (n1 : Int)) = false := by simp; omega
 have hb3 : decide ((300 : Int) < (n3 : Int)) = false := by simp; omega
 obtain ⟨q, hr, hat0⟩ := placed7 a 120 (by omega) (by omega); have hat : wrap64 ((IntKind.u64.wrap a).tmod 120) = (q : Int) := hat0; obtain ⟨z, hz⟩ : ∃ z, 8 + q = z := ⟨_, rfl⟩
 have hatz : wrap64 (8 + (q : Int)) = (z : Int) := by rw [IntWalk.wrap64_in _ ⟨by omega, by omega⟩]; omega
 have hz8 : 8 ≤ z ∧ z ≤ 1024 := by omega
 have HZ := kept hz8; have HNW := kept (fun W => new_any z W hz8.1 hz8.2); have HRN := kept (fun W => rnew_any z W hz8.1 hz8.2); obtain ⟨f1, f2, f3, f4, f5⟩ := formatted_spec z hz8.1 hz8.2; have HFS := kept (And.intro f1 (And.intro f2 (And.intro f3 f4))); clear hF hat0 hz hr f1 f2 f3 f4 f5 r1 r3; go_enter Tryz.func9, Tryz.ntmps9; go_wp2_with (first | (go_at_call 33; (with_reducible refine (HLV.out).mono ?_); rintro e w1 ⟨rfl, hb1'⟩; have HB1 := kept hb1' ; clear hb1') | (go_at_call 34; (with_reducible refine (HNW.out w1).mono ?_); rintro e w2 ⟨d, rfl, hd2, hn2, hb2⟩; have HD2 := kept hd2; have HN2 := kept hn2; have HB2 := kept hb2; clear hd2 hn2 hb2) | (go_at_call 35; (with_reducible refine (HRN.out w2).mono ?_); rintro e w3 ⟨rfl, h3'⟩; have HR3' := kept h3'.out; clear h3'))
 have hbs : w1.heap.size ≤ w2.heap.size := HB2.out.size; generalize hbase : w2.heap.size = base at HR3' hbs ⊢; have HBA : Hid (w.heap.size ≤ base) := kept (Nat.le_trans HB1.out.size hbs); have HDN : Hid (∀ i, d.own i → w.heap.size ≤ i) := kept (fun i hi => Nat.le_trans HB1.out.size (HN2.out i hi)); have HO3 : Hid (Ob w d base base (fresh z) (fresh z) w3) := kept ⟨HD2.out.below (hbase ▸ HR3'.out.2.2), ⟨_, HR3'.out.1, HR3'.out.2.1⟩, (HB1.out.trans (HB2.out.mono HB1.out.size)).trans ((hbase ▸ HR3'.out.2.2 : Below w2.heap.size w2 w3).mono (HB1.out.trans (HB2.out.mono HB1.out.size)).size)⟩; have hfm := format_any d (fresh z) w3 HO3.out.1 (by show (0 : Nat) ≤ _; omega) (HFW.out w3 HO3.out.2.2); rw [fresh_len, HFS.out.1] at hfm; have HFM := kept hfm; clear hfm HD2 HN2 HB2 HB1 HR3' hbase hbs HNW HRN HLV; go_wp2_with fail
 with_reducible refine HFM.out.mono ?_
 rintro e w4 ⟨rfl, h4⟩; have HO4 : Hid (Ob w d base base (formatted z) (fresh z) w4) := kept (HO3.out.left HDN.out h4.out); obtain ⟨_, ⟨R4, hR4, hS4⟩, _⟩ := HO4.out; have HRF := kept (rformat_any base base z R4 w4 hR4 hS4 HZ.out.1 HZ.out.2); clear h4 hR4 hS4 HFM HO3; go_wp2_with fail
 with_reducible refine HRF.out.mono ?_
 rintro e w5 ⟨rfl, h5⟩; have HO5 : Hid (Ob w d base base (formatted z) (formatted z) w5) := kept (HO4.out.right HBA.out h5.out); have HL0 : Hid (∃ S, Ob w d base base S S w5 ∧ Gd z (2000 + 0) S) := kept ⟨_, HO5.out, HFS.out.2⟩; clear h5 HRF HO4 HO5; obtain ⟨Zo, hzo⟩ : ∃ Zo, Obj.cells (List.replicate 256 (Value.int .u8 0)).toArray 5 (0, 0) = Zo := ⟨_, rfl⟩
 have hmk : ∀ W : World, (Instr.makeSlice 46 (.int .i64 256) (.int .i64 256)).run Tryz.prog W = .ok (.slice (some ⟨W.heap.size, 0, none⟩) 256 256) (W.alloc Zo) := fun W => by rw [← hzo]; exact make_bytes W
 have HZB : Hid (∀ W : World, Blk (W.alloc Zo) W.heap.size 5 (cellsOf noughts)) := kept (fun W => by
  rw [← hzo, noughts_made]; exact Blk.new W 5 _)
 clear hzo; go_wp2; go_loopw [50] (fun i wr => ∃ k : Nat, k ≤ n1 ∧ i = .int .i64 (k : Int) ∧ Hid (∃ S, Ob w d base base S S wr ∧ Gd z (2000 + k) S)) (fun i _ => n1 - (intOf i).toNat)
 case atStart => exact ⟨0, Nat.zero_le _, rfl, HL0⟩
 case round =>
  obtain ⟨k, hk, rfl, HP⟩ := hrel; obtain ⟨S, ho, hg⟩ := HP.out; have HO := kept ho; have HG := kept hg; clear ho hg HP HL0; by_cases hlt : k < n1
  · obtain ⟨b, o, hA, hc⟩ := (HR1.out wr HO.out.2.2).at_ hlt; have hc : wr.cell? ⟨b, o + k, none⟩ = some (.int .i64 (Z[k]'(by rw [(HR1.out wr HO.out.2.2).1]; exact hlt))) := hc; generalize Z[k]'(by rw [(HR1.out wr HO.out.2.2).1]; exact hlt) = y at hc; have hkn : (k : Int) < (n1 : Int) := by omega
    have HBZ : Hid (Below wr.heap.size wr (wr.alloc Zo)) := kept ((Below.refl _ _).alloc (Nat.le_refl _) _); have HR3Z := kept (HR3.out _ (HO.out.2.2.trans (HBZ.out.mono HO.out.2.2.size))); have HYL : Hid ((xs.take 256 ++ noughts.drop (min n3 256)).length = 256) := kept (by
     have h1 := HR3Z.out.1; rw [List.length_append, List.length_take, List.length_drop, noughts_length, h1]
     omega)
    subst hA; have hx256 := hx; obtain ⟨v6, w6, hrun6, hk6, ho6⟩ := run_copy_new (wr.alloc Zo) 3 wr.heap.size n3 256 c3 5 noughts xs A3 (HZB.out wr) noughts_length HR3Z.out; generalize hys : xs.take 256 ++ noughts.drop (min n3 256) = ys at hk6 HYL; obtain ⟨u, hu⟩ : ∃ u : UInt8, (cellsOf ys)[255]? = some (byteV u) := ⟨ys[255]'(by rw [HYL.out]; omega), by simp [cellsOf, HYL.out]⟩
    have e255 : w6.cell? ⟨wr.heap.size, 255, none⟩ = some (.int .u8 (u.toNat : Int)) := by rw [hk6.cell]; exact hu
    have f255 := hk6.frozen 255; have hxo := bits_byte u x hx256; generalize u ^^^ UInt8.ofNat x = uv at hxo; have hbv : byteV uv = .int .u8 (uv.toNat : Int) := rfl; rw [hbv] at hxo; have HB6 : Hid (Below wr.heap.size wr w6) := kept (ho6.below HBZ.out HBZ.out.size (Nat.le_refl _)); have HK7 : Hid (Blk (w6.setCell ⟨wr.heap.size, 255, none⟩ (.int .u8 (uv.toNat : Int))) wr.heap.size 5 (cellsOf (ys.set 255 uv))) := kept (by
     have h := hk6.set_ 255 (byteV uv); have e : (cellsOf ys).set 255 (byteV uv) = cellsOf (ys.set 255 uv) := by simp [cellsOf, List.map_set]
     rw [e] at h; exact h)
    have HB7 : Hid (Below wr.heap.size wr (w6.setCell ⟨wr.heap.size, 255, none⟩ (.int .u8 (uv.toNat : Int)))) := kept (HB6.out.setCell (p := ⟨wr.heap.size, 255, none⟩) (Nat.le_refl _) _); have HYS : Hid ((ys.set 255 uv).length = 256) := kept (by rw [List.length_set]; exact HYL.out); generalize hyv : ys.set 255 uv = yv at HK7 HYS; clear hk6 ho6 hys hu hyv HYL HB6 hbv; have HO7 := kept (HO.out.below HB7.out); have HW7 := kept (write_any d S y (some ⟨wr.heap.size, 0, none⟩) 256 yv _ HO7.out.1 (HK7.out.rd HYS.out) (by have := HG.out.2.2; omega)); go_wp2_with fail
    with_reducible refine HW7.out.mono ?_
    rintro e w8 ⟨rfl, h8⟩; have HO8 : Hid (Ob w d base base (S.tryWrite y yv) S w8) := kept (HO7.out.left HDN.out h8.out); have HK8 : Hid (Blk w8 wr.heap.size 5 (cellsOf yv)) := kept (h8.out.2.blk HK7.out (fun hj => HO7.out.1.own_cl HK7.out.cl (by decide) (by decide) hj)); obtain ⟨R8, hR8, hS8⟩ := HO8.out.2.1; have HRW := kept (rwrite_any base base S R8 y (some ⟨wr.heap.size, 0, none⟩) 256 yv w8 hR8 hS8 (HK8.out.rd HYS.out) (by have := HG.out.2.2; omega)); clear h8 hR8 hS8 HW7 e255 f255 hrun6; go_wp2_with fail
    with_reducible refine HRW.out.mono ?_
    rintro e w9 ⟨rfl, h9⟩; have HFIN : Hid (∃ S, Ob w d base base S S w9 ∧ Gd z (2000 + (k + 1)) S) := kept ⟨_, HO8.out.right HBA.out h9.out, HG.out.try_ y yv⟩; generalize writeE S y 256 = er; have her : (er != er) = false := by simp
    clear h9 HRW hc hmk; go_wp2; go_roundw
    case rel => exact ⟨k + 1, by omega, by go_num, HFIN⟩
    case measure => simp [intOf]; omega
  · obtain rfl : k = n1 := by omega
    have hkn : ¬ (k : Int) < (k : Int) := by omega
    have HSY := kept (sync_any d S wr HO.out.1 (by have := HG.out.2.2; omega)); obtain ⟨hsy, hgs⟩ := HG.out.sync_; have HG1 := kept hgs; rw [hsy] at HSY; clear hsy hgs hmk HR1 HR3; go_wp2_with fail
    with_reducible refine HSY.out.mono ?_
    rintro e w6 ⟨rfl, h6⟩; have HO6 : Hid (Ob w d base base S.trySync S w6) := kept (HO.out.left HDN.out h6.out); obtain ⟨R6, hR6, hS6⟩ := HO6.out.2.1; have HRS := kept (rsync_any base base S R6 w6 hR6 hS6 HO.out.1.1 (by have := HG.out.2.2; omega)); clear h6 hR6 hS6 HSY; go_wp2_with fail
    with_reducible refine HRS.out.mono ?_
    rintro e w7 ⟨rfl, h7⟩; have HO7 : Hid (Ob w d base base S.trySync S.trySync w7) := kept (HO6.out.right HBA.out h7.out); clear h7 HRS HO6 HO HG; generalize S.trySync = T at HO7 HG1; obtain ⟨R7, hR7, hS7⟩ := HO7.out.2.1; have hfu : T.fuse ≠ 0 := by rw [HG1.out.1]; decide
    have HRO := fun W (hb : Below w7.heap.size w7 W) => kept (ropen_any base base T R7 W (hR7.below hb) hS7 hfu (by rw [HG1.out.2.1]; exact HZ.out.1) (by rw [HG1.out.2.1]; exact HZ.out.2) (by have := HG1.out.2.2; omega))
    have HWB := kept HO7.out.2.2; by_cases hE : openE T = 0
    case neg =>
     have HOP := kept (open_bad d T w7 HO7.out.1 hfu (HFW.out w7 HO7.out.2.2) hE); generalize openE T = E at hE HOP HRO; have hne : (E != 0) = true := by simpa using hE
     have hee : (E != E) = false := by simp
     have HNE := kept hE; clear hE hR7 hS7 HO7; go_wp2_with fail
     with_reducible refine HOP.out.mono ?_
     rintro e w8 ⟨rfl, hb8⟩; have HB8 := kept hb8; have HRO8 := HRO w8 hb8; clear hb8 HOP HRO; go_wp2_with fail
     with_reducible refine HRO8.out.mono ?_
     rintro e w9 ⟨P, rfl, h9⟩; obtain ⟨hb9, hP9, _⟩ := h9.out; obtain rfl := hP9 HNE.out; have HB9 := kept (HB8.out.trans (hb9.mono HB8.out.size)); clear hb9 hP9 h9 HRO8 HB8; go_wp2_with fail
     with_reducible refine (pread_nil 2 w9).mono ?_
     rintro e w10 ⟨rfl, hb10⟩; have HB10 := kept (HB9.out.trans (hb10.mono HB9.out.size)); clear hb10 HB9; go_upto_region 25 with fail
     obtain ⟨W0, hW0⟩ : ∃ W0, W0 = w10.alloc (.cells #[.int .i64 0, .int .u64 0, .int .i64 0, .slice none 0 0, .slice none 0 0, .slice none 0 0, .slice none 0 0] 93) := ⟨_, rfl⟩
     have HB0 : Hid (Below w7.heap.size w7 W0) := kept (by rw [hW0]; exact HB10.out.alloc HB10.out.size _); rw [← hW0]; clear hW0 HB10; refine wp_region_held_drew (S := (fun _ => True)) (by kernel_rfl) ?_ (fun hHeld => ?_)
     · ((try dsimp only); (first | done | exact trivial))
     refine hT 0 (some 103) ?_; refine hT 1 (some 104) ?_; refine hT 2 (some 105) ?_; refine hT 3 (some 106) ?_; refine hR 4 (fun K hK => ?_); go_simp
     (go_at_call 14; (with_reducible refine (pcommit_nil _).mono ?_); rintro e w' ⟨rfl, rfl⟩)
     (try go_wp2_with fail); refine hK.out _ _ ?_ (fun hHeld => ?_)
     · ((try dsimp only); (first | done | exact trivial))
     clear hK K; (try simp only [Act.put, hA, h0, h1]); refine hT 5 (some 108) ?_; refine hT 6 (some 109) ?_; refine hT 7 (some 110) ?_; refine hR 8 (fun K hK => ?_); go_simp
     (go_at_call 36; (with_reducible refine (format_nil _).mono ?_); rintro e w' ⟨rfl, rfl⟩)
     (try go_wp2_with fail); refine hK.out _ _ ?_ (fun hHeld => ?_)
     · ((try dsimp only); (first | done | exact trivial))
     clear hK K; (try simp only [Act.put, hA, h0, h1]); refine hT 9 (some 112) ?_; refine hT 10 (some 113) ?_; refine hT 11 (some 114) ?_; refine hT 12 (some 115) ?_; refine hT 13 (some 116) ?_; refine hT 14 (some 117) ?_; refine hU 15 (some 118) ?_; refine hU 16 (some 119) ?_; refine hU 17 (some 120) ?_; refine hU 18 (some 121) ?_; refine hU 19 (some 122) ?_; refine hU 20 (some 123) ?_; refine hU 21 (some 124) ?_; refine hU 22 (some 125) ?_; refine hU 23 (some 126) ?_; refine hU 24 (some 127) ?_; refine hU 25 (some 128) ?_; refine hU 26 (some 129) ?_; refine hU 27 (some 130) ?_; refine hU 28 (some 131) ?_; refine hU 29 (some 132) ?_; refine hU 30 (some 133) ?_; refine hU 31 (some 134) ?_; refine hU 32 (some 135) ?_; refine hT 33 (some 136) ?_; refine hT 34 (some 137) ?_; refine hT 35 (some 8) ?_; refine wpAnyH_done (by kernel_rfl) ?_ _; go_wp2; go_ret; exact ⟨rfl, HWB.out.trans (HB0.out.drew.mono HWB.out.size)⟩
    have HOP := kept (open_ok d T w7 HO7.out.1 hfu (HFW.out w7 HO7.out.2.2) hE); have HOK := kept (openS_ok hE); rw [HG1.out.2.1] at HOK; rw [hE] at HRO; generalize openS T = OS at HOP HRO HOK; clear hE hR7 hS7 HO7; go_wp2_with fail
    with_reducible refine HOP.out.mono ?_
    rintro e w8 ⟨p, rfl, h8⟩; obtain ⟨hp8, hpg8, hb8, hpo8⟩ := h8.out; have HB8 := kept hb8; have HPG8 := kept hpg8; have HRO8 := HRO w8 hb8; clear hb8 hpg8 hp8 hpo8 h8 HOP HRO; go_wp2_with fail
    with_reducible refine HRO8.out.mono ?_
    rintro e w9 ⟨P, rfl, h9⟩; obtain ⟨hb9, _, hx9⟩ := h9.out; obtain ⟨r0, rl, g, G, rfl, hc1, hc5, hRf, hSim⟩ := hx9 rfl; have HB9 := kept (HB8.out.trans (hb9.mono HB8.out.size)); have HPG9 := kept (HPG8.out.below hb9); have HC9 : Hid (∀ W, Below w9.heap.size w9 W → W.cell? ⟨r0, 1, none⟩ = some (.int .u64 (OS.M.txn : Int)) ∧ W.cell? ⟨r0, 5, none⟩ = some (.pointer (some ⟨rl, 0, none⟩))) := kept (fun W hb => ⟨(hb.cell (p := ⟨r0, 1, none⟩) (World.block_lt_of_cell? w9 _ hc1)).trans hc1, (hb.cell (p := ⟨r0, 5, none⟩) (World.block_lt_of_cell? w9 _ hc5)).trans hc5⟩); have HRF9 := kept hRf; have HGL : Hid (G.length ≤ 1024) := kept (by have h1 := hSim.1; have h2 := HOK.out.lz; have h3 := HZ.out.2; rw [h2] at h1; omega); have HIX : Hid (idx G 1 G.length = OS.L.S) := kept (idx_one hSim HPG8.out.lst.1); have HTX := kept (fun (W : World) (hb : Below w9.heap.size w9 W) => txn_any (HPG9.out.below hb)); have HSP := kept (fun (W : World) (hb : Below w9.heap.size w9 W) => pspare_any (HPG9.out.below hb)); have HAL := kept (fun (W : World) (hb : Below w9.heap.size w9 W) => rall_any rl g G 1 W (HRF9.out.below hb) HGL.out); have HSH : Hid (OS.L.S.length ≤ 1000000) := kept (by have := HPG8.out.lst.1.short; omega); clear hb9 hx9 h9 hc1 hc5 hRf hSim HRO8; go_wp2_with fail
    with_reducible refine (pread_nil 2 w9).mono ?_
    rintro e w10 ⟨rfl, hb10⟩; have HB10 := kept hb10; clear hb10; go_upto_region 25 with fail
    obtain ⟨W0, hW0⟩ : ∃ W0, W0 = w10.alloc (.cells #[.int .i64 0, .int .u64 0, .int .i64 0, .slice none 0 0, .slice none 0 0, .slice none 0 0, .slice none 0 0] 93) := ⟨_, rfl⟩
    have HB0 : Hid (Below w9.heap.size w9 W0) := kept (by rw [hW0]; exact HB10.out.alloc HB10.out.size _); rw [← hW0]; clear hW0 HB10; have HBD : Hid (Below w9.heap.size w9 W0.drew) := kept HB0.out.drew; have k1 := (HC9.out _ HBD.out).1; have k5 := (HC9.out _ HBD.out).2; generalize hX : OS.L.S = X at HSP HIX HSH; obtain ⟨lx, hlx⟩ : ∃ lx, X.length = lx := ⟨_, rfl⟩
    rw [hlx] at HSP HSH; refine wp_region_held_drew (S := (fun W' => W'.cell? ⟨r0, 1, none⟩ = some (.int .u64 (OS.M.txn : Int)) ∧ W'.cell? ⟨r0, 5, none⟩ = some (.pointer (some ⟨rl, 0, none⟩)))) (by kernel_rfl) ?_ (fun hHeld => ?_)
    · ((try dsimp only); (with_reducible first | exact ⟨k1, k5⟩ | exact HC9.out _ HBQ.out | exact HC9.out _ HBX.out | exact HC9.out _ HBF.out))
    refine hT 0 (some 103) ?_; refine hT 1 (some 104) ?_; refine hT 2 (some 105) ?_; refine hT 3 (some 106) ?_; refine hR 4 (fun K hK => ?_); go_simp
    (go_at_call 14; (with_reducible refine (pcommit_nil _).mono ?_); rintro e w' ⟨rfl, rfl⟩)
    (try go_wp2_with fail); refine hK.out _ _ ?_ (fun hHeld => ?_)
    · ((try dsimp only); (with_reducible first | exact ⟨k1, k5⟩ | exact HC9.out _ HBQ.out | exact HC9.out _ HBX.out | exact HC9.out _ HBF.out))
    clear hK K; (try simp only [Act.put, hA, h0, h1]); refine hT 5 (some 108) ?_; refine hT 6 (some 109) ?_; refine hT 7 (some 110) ?_; refine hR 8 (fun K hK => ?_); go_simp
    (go_at_call 36; (with_reducible refine (format_nil _).mono ?_); rintro e w' ⟨rfl, rfl⟩)
    (try go_wp2_with fail); refine hK.out _ _ ?_ (fun hHeld => ?_)
    · ((try dsimp only); (with_reducible first | exact ⟨k1, k5⟩ | exact HC9.out _ HBQ.out | exact HC9.out _ HBX.out | exact HC9.out _ HBF.out))
    clear hK K; (try simp only [Act.put, hA, h0, h1]); refine hT 9 (some 112) ?_; refine hT 10 (some 113) ?_; refine hT 11 (some 114) ?_; refine hT 12 (some 115) ?_; refine hT 13 (some 116) ?_; refine hT 14 (some 117) ?_; refine hT 15 (some 118) ?_; refine hT 17 (some 120) ?_; refine hT 18 (some 121) ?_; refine hT 19 (some 122) ?_; refine hT 20 (some 123) ?_; refine hT 21 (some 124) ?_; refine hR 16 (fun K hK => ?_); go_simp
    (go_at_call 43; (with_reducible refine (HTX.out _ HBD.out).mono ?_); rintro e w' ⟨rfl, rfl⟩)
    (try go_wp2_with fail); refine hK.out _ _ ?_ (fun hHeld => ?_)
    · ((try dsimp only); (with_reducible first | exact ⟨k1, k5⟩ | exact HC9.out _ HBQ.out | exact HC9.out _ HBX.out | exact HC9.out _ HBF.out))
    clear hK K; (try simp only [Act.put, hA, h0, h1]); refine hT 22 (some 125) ?_; refine hT 23 (some 126) ?_; refine hT 24 (some 127) ?_; refine hT 26 (some 129) ?_; refine hT 27 (some 130) ?_; refine hT 28 (some 131) ?_; refine hT 29 (some 132) ?_; refine hR 25 (fun K hK => ?_); go_simp
    ((go_at_call 28; (with_reducible refine (HSP.out _ HBD.out).mono ?_); rintro e w20 ⟨D, dc, rfl, h20⟩); have HBF : Hid (Below w9.heap.size w9 w20) := kept (HBD.out.trans (h20.out.2.1.mono HBD.out.size)); have HRD : Hid (RdI w20 D lx X) := kept (by rw [← hlx]; exact h20.out.1.reads); clear h20)
    (try go_wp2_with fail); refine hK.out _ _ ?_ (fun hHeld => ?_)
    · ((try dsimp only); (with_reducible first | exact ⟨k1, k5⟩ | exact HC9.out _ HBQ.out | exact HC9.out _ HBX.out | exact HC9.out _ HBF.out))
    clear hK K; (try simp only [Act.put, hA, h0, h1]); refine hR 30 (fun K hK => ?_); go_simp
    ((go_at_call 45; (with_reducible refine (HAL.out _ HBF.out).mono ?_); rintro e w21 ⟨F, fm, fc, rfl, h21⟩); have HBX : Hid (Below w9.heap.size w9 w21) := kept (HBF.out.trans (h21.out.2.1.mono HBF.out.size)); have HXX : Hid (RdI w21 D lx X ∧ RdI w21 F fm X) := kept ⟨HRD.out.below h21.out.2.1, by rw [← HIX.out]; exact h21.out.1.reads⟩; clear h21)
    (try go_wp2_with fail); refine hK.out _ _ ?_ (fun hHeld => ?_)
    · ((try dsimp only); (with_reducible first | exact ⟨k1, k5⟩ | exact HC9.out _ HBQ.out | exact HC9.out _ HBX.out | exact HC9.out _ HBF.out))
    clear hK K; (try simp only [Act.put, hA, h0, h1]); refine hR 31 (fun K hK => ?_); go_simp
    (go_at_call 44; (with_reducible refine (same_i D F lx fm dc fc X X _ HXX.out.1 HXX.out.2 HSH.out).mono ?_); rintro e w22 ⟨rfl, h22⟩; obtain ⟨q22, rfl⟩ := h22.out; rw [show decide (X = X) = true from decide_eq_true rfl]; have HBQ := kept (below_dn HBX.out q22))
    (try go_wp2_with fail); refine hK.out _ _ ?_ (fun hHeld => ?_)
    · ((try dsimp only); (with_reducible first | exact ⟨k1, k5⟩ | exact HC9.out _ HBQ.out | exact HC9.out _ HBX.out | exact HC9.out _ HBF.out))
    clear hK K; (try simp only [Act.put, hA, h0, h1]); refine hT 32 (some 135) ?_; refine hT 33 (some 136) ?_; refine hT 34 (some 137) ?_; refine hT 35 (some 8) ?_; refine wpAnyH_done (by kernel_rfl) ?_ _; go_wp2; go_ret; exact ⟨rfl, HWB.out.trans ((HB9.out.trans (HBQ.out.mono HB9.out.size)).mono HWB.out.size)⟩
theorem walk (w : World) (hF : Fours w) (a : Int) (ha : (Lit.int .i64 a).wf = true) (A1 : Option Addr) (n1 c1 : Nat) (nc1 : n1 ≤ c1) (cm1 : c1 ≤ maxLen) (Z : Nat → Int) (r1 : RdVals w A1 n1 (fun i => .int .i64 (Z i))) (w1 : ∀ i, i < n1 → (Lit.int .i64 (Z i)).wf = true) (x : Int) (wx : (Lit.int .u8 x).wf = true) (A3 : Option Addr) (n3 c3 : Nat) (xs : List UInt8) (r3 : Rd w A3 n3 xs) (nc3 : n3 ≤ c3) (hl : n3 ≤ 140737488351232) :
 Calls Tryz.prog 9 #[.int .i64 a, .slice A1 n1 c1, .int .u8 x, .slice A3 n3 c3] w fun e w' => e = .returned (.bool true) ∧ Below w.heap.size w w' := by
 have hx : 0 ≤ x ∧ x ≤ 255 := by simpa [Lit.wf, IntKind.min, IntKind.max, IntKind.signed, IntKind.bits] using wx
 by_cases h : n1 ≤ 20 ∧ n3 ≤ 300
 · obtain ⟨m, rfl⟩ := Int.eq_ofNat_of_zero_le hx.1; exact walked_law w hF a m (by omega) A1 n1 c1 _ (RdI.of_vals r1) A3 n3 c3 xs r3 h.1 h.2
 · exact walk_out w hF a x A1 n1 c1 A3 n3 c3 (by omega) (by omega) hl
end Go.Proofs.YtcapcobkildmcaaGreatDoor.pagerOpens
end
