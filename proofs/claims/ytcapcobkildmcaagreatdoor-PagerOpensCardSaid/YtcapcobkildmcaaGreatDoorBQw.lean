/- Qw Qx Qy Qz -/
import Derived.Test.YtcapcobkildmcaaGreatDoorBZb
import Derived.Test.YtcapcobkildmcaaGreatDoorBQr
import Derived.Test.YtcapcobkildmcaaGreatDoorBQh
import Derived.Lib.ConvBytes
section
namespace Go.Proofs.YtcapcobkildmcaaGreatDoor
open Go.ChangeShapes Go.WideShapes Go.ChangeAt Go.RowKit
set_option linter.unusedVariables false
set_option linter.unusedSimpArgs false
set_option maxRecDepth 100000
set_option maxHeartbeats 16000000
def pieceP (xs : List UInt8) : Pg := ⟨3, 0, 0, [], [], xs, []⟩
theorem piece_right {xs : List UInt8} (h1 : 1 ≤ xs.length) (h2 : xs.length ≤ 237) (t : Nat) : rightB (txnP (pieceP xs) t) = true := by
 have e1 : (0 < xs.length) = True := by simp; omega
 simp [rightB, ownB, nextB, thingsB, usedN, txnP, pieceP, ordU, h2]; exact h1
theorem bytesWorld_below_ (w : World) (e : TypeId) (s : ByteArray) : Below w.heap.size w (Lib.bytesWorld w e s) :=
 ⟨rfl, rfl, rfl, by rw [Lib.bytesWorld_size]; omega, fun j hj => Lib.bytesWorld_at_old w e s j hj⟩
theorem bytesWorld_rd (w : World) (e : TypeId) (s : ByteArray) : Rd (Lib.bytesWorld w e s) (some ⟨w.heap.size, 0, none⟩) s.size s.data.toList := by
 refine ⟨by simp, fun _ => ⟨_, rfl, fun j h => ?_⟩⟩; have h0 : j < s.size := by have h := h; rw [Array.length_toList] at h; exact h
 have h1 := Lib.bytesWorld_cell w e s j h0; rw [add_at, Nat.zero_add, h1]; have h2 : s.data.toList.getD j 0 = s.data.toList[j] := by rw [List.getD_eq_getElem?_getD, List.getElem?_eq_getElem h]; rfl
 rw [h2]; rfl
theorem text_any (s : ByteArray) (w : World) (hs : s.size ≤ 100000) :
 Calls Tryz.prog 80 #[.string s] w fun e w' => ∃ l : Lay, e = .returned l.val ∧ Hid (RdPg w' l (pieceP s.data.toList)) ∧ Below w.heap.size w w' := by
 have HS := kept hs; have HCV : Hid (∀ W : World, (convert 9 46 (.string s)).run Tryz.prog W = .ok (.slice (some ⟨W.heap.size, 0, none⟩) s.size (grownCap W s.size 0 5)) (Lib.bytesWorld W 5 s)) := kept (fun W => Lib.run_convert_string_bytes W _ _ _ s rfl rfl rfl); clear hs; go_enter Tryz.func80, Tryz.ntmps80; have hcv := HCV.out (w.alloc (.cells #[.int .i64 0, .int .u64 0, .int .i64 0, .slice none 0 0, .slice none 0 0, .slice none 0 0, .slice none 0 0] 93)); have hb0 := (Below.refl w.heap.size w).alloc (Nat.le_refl _) (.cells #[.int .i64 0, .int .u64 0, .int .i64 0, .slice none 0 0, .slice none 0 0, .slice none 0 0, .slice none 0 0] 93); have hb1 := bytesWorld_below_ (w.alloc (.cells #[.int .i64 0, .int .u64 0, .int .i64 0, .slice none 0 0, .slice none 0 0, .slice none 0 0, .slice none 0 0] 93)) 5 s; have hk1 := (Blk.new w 93 #[.int .i64 0, .int .u64 0, .int .i64 0, .slice none 0 0, .slice none 0 0, .slice none 0 0, .slice none 0 0]).below hb1 (by simp); have hr1 := bytesWorld_rd (w.alloc (.cells #[.int .i64 0, .int .u64 0, .int .i64 0, .slice none 0 0, .slice none 0 0, .slice none 0 0, .slice none 0 0] 93)) 5 s; have hsz0 : (w.alloc (.cells #[.int .i64 0, .int .u64 0, .int .i64 0, .slice none 0 0, .slice none 0 0, .slice none 0 0, .slice none 0 0] 93)).heap.size = w.heap.size + 1 := by simp
 rw [hsz0] at hcv hr1; have hbb := hb0.trans (hb1.mono (by rw [hsz0]; omega)); generalize grownCap (w.alloc (.cells #[.int .i64 0, .int .u64 0, .int .i64 0, .slice none 0 0, .slice none 0 0, .slice none 0 0, .slice none 0 0] 93)) s.size 0 5 = cc at hcv; generalize Lib.bytesWorld (w.alloc (.cells #[.int .i64 0, .int .u64 0, .int .i64 0, .slice none 0 0, .slice none 0 0, .slice none 0 0, .slice none 0 0] 93)) 5 s = W1 at hcv hk1 hr1 hb1 hbb; have HR1 := kept hr1; have HBB := kept hbb; have HK1 := kept hk1; have p0 : W1.cell? ⟨w.heap.size, 0, none⟩ = some (.int .i64 0) := hk1.cell 0; have t0 := hk1.frozen 0; have p1 : W1.cell? ⟨w.heap.size, 1, none⟩ = some (.int .u64 0) := hk1.cell 1; have t1 := hk1.frozen 1; have p2 : W1.cell? ⟨w.heap.size, 2, none⟩ = some (.int .i64 0) := hk1.cell 2; have t2 := hk1.frozen 2; have p3 : W1.cell? ⟨w.heap.size, 3, none⟩ = some (.slice none 0 0) := hk1.cell 3; have t3 := hk1.frozen 3; have p4 : W1.cell? ⟨w.heap.size, 4, none⟩ = some (.slice none 0 0) := hk1.cell 4; have t4 := hk1.frozen 4; have p5 : W1.cell? ⟨w.heap.size, 5, none⟩ = some (.slice none 0 0) := hk1.cell 5; have t5 := hk1.frozen 5; have p6 : W1.cell? ⟨w.heap.size, 6, none⟩ = some (.slice none 0 0) := hk1.cell 6; have t6 := hk1.frozen 6; clear hb0 hb1 hk1 hr1 hsz0 hbb; go_wp2; have hb7 := ((((((HK1.out.set_ 0 (.int .i64 3)).set_ 1 (.int .u64 0)).set_ 2 (.int .i64 0)).set_ 3 (.slice none 0 0)).set_ 4 (.slice none 0 0)).set_ 5 (.slice (some ⟨w.heap.size + 1, 0, none⟩) s.size cc)).set_ 6 (.slice none 0 0); simp only [List.set_cons_zero, List.set_cons_succ] at hb7; have ho7 := only7 W1 w.heap.size (.int .i64 3) (.int .u64 0) (.int .i64 0) (.slice none 0 0) (.slice none 0 0) (.slice (some ⟨w.heap.size + 1, 0, none⟩) s.size cc) (.slice none 0 0); unfold set7 at ho7; generalize (((((((W1.setCell ⟨w.heap.size, 0, none⟩ (.int .i64 3)).setCell ⟨w.heap.size, 1, none⟩ (.int .u64 0)).setCell ⟨w.heap.size, 2, none⟩ (.int .i64 0)).setCell ⟨w.heap.size, 3, none⟩ (.slice none 0 0)).setCell ⟨w.heap.size, 4, none⟩ (.slice none 0 0)).setCell ⟨w.heap.size, 5, none⟩ (.slice (some ⟨w.heap.size + 1, 0, none⟩) s.size cc)).setCell ⟨w.heap.size, 6, none⟩ (.slice none 0 0)) = X at hb7 ho7 ⊢
 have x0 : X.cell? ⟨w.heap.size, 0, none⟩ = some (.int .i64 3) := hb7.cell 0; have x1 : X.cell? ⟨w.heap.size, 1, none⟩ = some (.int .u64 0) := hb7.cell 1; have x2 : X.cell? ⟨w.heap.size, 2, none⟩ = some (.int .i64 0) := hb7.cell 2; have x3 : X.cell? ⟨w.heap.size, 3, none⟩ = some (.slice none 0 0) := hb7.cell 3; have x4 : X.cell? ⟨w.heap.size, 4, none⟩ = some (.slice none 0 0) := hb7.cell 4; have x5 : X.cell? ⟨w.heap.size, 5, none⟩ = some (.slice (some ⟨w.heap.size + 1, 0, none⟩) s.size cc) := hb7.cell 5; have x6 : X.cell? ⟨w.heap.size, 6, none⟩ = some (.slice none 0 0) := hb7.cell 6; have hrX : Rd X (some ⟨w.heap.size + 1, 0, none⟩) s.size s.data.toList := HR1.out.only (fun a e h0 => by cases e; show w.heap.size + 1 ≠ w.heap.size; omega) ho7; exact bodyPost_ret (v := .agg #[.int .i64 3, .int .u64 0, .int .i64 0, .slice none 0 0, .slice none 0 0, .slice (some ⟨w.heap.size + 1, 0, none⟩) s.size cc, .slice none 0 0]) (by simp [results, Tryz.results80, go_sem, x0, x1, x2, x3, x4, x5, x6]) rfl ⟨⟨3, 0, 0, none, 0, 0, none, 0, 0, some ⟨w.heap.size + 1, 0, none⟩, s.size, cc, none, 0, 0⟩, rfl, kept ⟨rfl, rfl, rfl, RdItems.nil_ _ _, RdKids.nil_ _ _, hrX, RdNums.nil_ _ _, Int.le_refl 0, (by show (0 : Int) < _; omega), Nat.zero_le _, Nat.zero_le _, by show s.size ≤ _; have := HS.out; omega, Nat.zero_le _⟩, ho7.below HBB.out HBB.out.size (Nat.le_refl _)⟩
theorem made_any (z : Nat) (w : World) (h1 : 8 ≤ z) (h2 : z ≤ 1024) (hF : Fours w) :
 Calls Tryz.prog 11 #[.int .i64 (z : Int)] w fun e w' => ∃ p : Pgl, e = .returned (.tuple #[.pointer (some ⟨p.d.r, 0, none⟩), .pointer (some ⟨p.r, 0, none⟩)]) ∧ Hid (Pgr w' p (baseP z) (formatted z) ∧ Below w.heap.size w w' ∧ ∀ j, p.all j → w.heap.size ≤ j) := by
 have HN := kept (new_any z w h1 h2); have HF := kept hF; obtain ⟨f1, f2, f3, f4, f5⟩ := formatted_spec z h1 h2; have HO := f5.opens; have HFM := kept (fun (d : Dk) (W : World) (hd : Dsk W d (fresh z)) (hb : Below w.heap.size w W) => format_any d (fresh z) W hd (by show (0 : Nat) ≤ _; omega) (hF.below hb)); rw [fresh_len, f1] at HFM; have HOP := kept (fun (d : Dk) (W : World) (hd : Dsk W d (formatted z)) (hb : Below w.heap.size w W) => open_ok d (formatted z) W hd (by rw [f2]; decide) (hF.below hb) HO.1); rw [HO.2] at HOP; clear h1 h2 hF f1 f2 f3 f4 f5 HO; go_enter Tryz.func11, Tryz.ntmps11; go_wp2_with fail
 with_reducible refine HN.out.mono ?_
 rintro e w1 ⟨d, rfl, hd, hn, hb1⟩; have HD := kept hd; have HDN := kept hn; have HB1 := kept hb1; have HF1 := kept (HFM.out d w1 hd hb1); clear hd hn hb1; go_wp2_with fail
 with_reducible refine HF1.out.mono ?_
 rintro e w2 ⟨rfl, h2⟩; have HB2 : Hid (Below w.heap.size w w2) := kept (h2.out.2.only_new HB1.out HB1.out.size HDN.out); have HO2 := kept (HOP.out d w2 h2.out.1 HB2.out); go_wp2_with fail
 with_reducible refine HO2.out.mono ?_
 rintro e w3 ⟨p, rfl, h3⟩; go_wp2; go_ret2; refine ⟨p, by rw [h3.out.1]; rfl, kept ⟨h3.out.2.1, HB2.out.trans (h3.out.2.2.1.mono HB2.out.size), fun j hj => ?_⟩⟩; rcases hj with hj | hj
 · exact Nat.le_trans HB2.out.size (h3.out.2.2.2 j hj)
 · rw [h3.out.1] at hj; exact HDN.out j hj
structure Ses (S : St) (B P : PSt) (el : Mt) : Prop where
 hd : OnDisk S B el
 tr : InTr B P
 room : S.pages.length / 60 + 1 ≤ P.L.S.length
 c1 : 1 ≤ P.chain.length
 rt : P.root = 0 ∨ (2 ≤ P.root ∧ P.root < (S.pages.length : Int))
theorem nodup_len {C : List Int} {z : Nat} (hn : C.Nodup) (hb : ∀ x ∈ C, 2 ≤ x ∧ x < (z : Int)) : C.length ≤ z - 2 := by
 have hp : (C.mergeSort (fun x y => decide (x ≤ y))).Perm C := List.mergeSort_perm _ _; rw [← hp.length_eq]; have hr : Rising (C.mergeSort (fun x y => decide (x ≤ y))) := sorted_rising hn; rcases hr.length_le (a := 2) (b := z) (fun x hx => (hb x (hp.mem_iff.1 hx)).1) (fun x hx => (hb x (hp.mem_iff.1 hx)).2) with h | h
 · rw [h]; exact Nat.zero_le _
 · omega
section
variable {B P : PSt} {S : St} {el : Mt} {z : Nat}
theorem total_le (h : P.ok z) (hl : P.L.ok) : P.L.S.length + P.L.H.length + P.chain.length ≤ z - 2 := by
 have hS : P.L.S.Nodup := hl.2.2.1.imp fun h => by omega
 have hH : P.L.H.Nodup := hl.2.2.2.1.imp fun h => by omega
 have hn : (P.L.S ++ P.L.H ++ P.chain).Nodup := by
  rw [List.nodup_append, List.nodup_append]; refine ⟨⟨hS, hH, fun x hx y hy e => h.sh x hx (e ▸ hy)⟩, h.cn, fun x hx y hy e => ?_⟩; subst e; rcases List.mem_append.1 hx with hx | hx
  · exact (h.cs x hy).1 hx
  · exact (h.cs x hy).2 hx
 have hb : ∀ x ∈ P.L.S ++ P.L.H ++ P.chain, 2 ≤ x ∧ x < (z : Int) := fun x hx => by
  rw [← h.lz]; rcases List.mem_append.1 hx with hx | hx
  · rcases List.mem_append.1 hx with hx | hx
    · exact hl.2.2.2.2.1 x hx
    · exact hl.2.2.2.2.2 x hx
  · rw [h.lz]; exact h.cb x hx
 have := nodup_len hn hb
 rwa [List.length_append, List.length_append] at this
theorem Ses.roomOk (h : Ses S B P el) (ok : P.ok S.pages.length) (hl : P.L.ok) : RoomOk P := by
 have h1 := total_le ok hl; have h2 := h.room; have h3 := h.hd.bas.z1; unfold RoomOk needN; omega
theorem addAll_len {H : List Int} : ∀ {S : List Int}, H.Nodup → (∀ x ∈ H, x ∉ S) → (addAll S H).length = S.length + H.length := by
 induction H with
 | nil => intro S _ _; rfl
 | cons x r ih =>
   intro S hn hd; have h1 := List.nodup_cons.1 hn; have e : addI x S = ins x S := by unfold addI; rw [if_neg (hd x (List.mem_cons_self ..))]
   show (addAll (addI x S) r).length = _; rw [ih h1.2 (fun y hy hm => ?_), e, ins_length, List.length_cons]
   · omega
   · rcases mem_addI.1 hm with hm | hm
     · exact h1.1 (hm ▸ hy)
     · exact hd y (List.mem_cons_of_mem _ hy) hm
theorem settle_len (h : P.ok z) (hl : P.L.ok) (hk : RoomOk P) : (settleL P).S.length + (settleC P).length = P.L.S.length + P.L.H.length + P.chain.length := by
 have hc : ∀ x ∈ P.chain, 2 ≤ x ∧ x < P.L.z := fun x hx => by rw [h.lz]; exact h.cb x hx
 have hH : P.L.H.Nodup := hl.2.2.2.1.imp fun h => by omega
 have h1 : (addAll (P.L.S.drop (needN (P.L.S.length + P.L.H.length + P.chain.length))) P.L.H).length = _ := addAll_len hH fun x hx hm => h.sh x (List.mem_of_mem_drop hm) hx
 have h2 : (addAll (addAll (P.L.S.drop (needN (P.L.S.length + P.L.H.length + P.chain.length))) P.L.H) P.chain).length = _ := addAll_len h.cn fun x hx hm => by
  rcases mem_addAll.1 hm with hm | hm
  · exact (h.cs x hx).1 (List.mem_of_mem_drop hm)
  · exact (h.cs x hx).2 hm
 rw [settleL_is hc, settleC_len hk]; show (addAll (addAll _ _) _).length + _ = _; rw [h2, h1, List.length_drop]; unfold RoomOk at hk; omega
theorem keysL_len (h : P.ok z) (hz : z ≤ 1024) : (keysL P.add).length ≤ 1022 :=
 rising_le (keysL_rising P.add) fun x hx => add_range h hz x ((mem_keysL (add_range h hz) x).1 hx)
theorem storeS_done (S : St) (l : List Sheet) (t : Sheet) : (storeS S l t).1.done ≤ S.done + l.length + 3 := by
 have h1 := putS_done l S; unfold storeS
 split
 · have h2 := putS_done [t] (putS S l).1; simp only [List.length_singleton] at h2; omega
 · omega
theorem commitL_len (h : P.ok z) (hz : z ≤ 1024) (hl : P.L.ok) : (commitL P).length ≤ 2044 := by
 unfold commitL; rw [List.length_append, layC_length]; have h1 := keysL_len h hz; have h2 : (settleC P).length ≤ 1022 := by
  have := hl.short.1; unfold settleC; rw [List.length_take]; omega
 have h3 : (adSh P.add).length = (keysL P.add).length := by unfold adSh; rw [List.length_map]
 omega
theorem commit_alive (hin : ∀ x ∈ commitL P, inR S x.1) (h8 : 8 ≤ S.pages.length) (hf : S.fuse = -1) : (commitR P S).2 = 0 ∧ (commitR P S).1.fuse = -1 := by
 have h1 := putS_alive (commitL P) S hf hin; have hl := putS_len (commitL P) S; have h2 := putS_alive [((((P.M.txn + 1) % 2 : Nat) : Int), sealed (bodyM (nextM P)))] (putS S (commitL P)).1 h1.2 (fun x hx => by
  rw [List.mem_singleton.1 hx]; exact place_in (by omega) _)
 unfold commitR storeS; rw [if_pos h1.1]; exact h2
theorem head_mem {C : List Int} (h : 1 ≤ C.length) : headN C ∈ C := by
 cases C with
 | nil => simp at h
 | cons x r => exact List.mem_cons_self ..
theorem Ses.next_right (h : Ses S B P el) (ok : P.ok S.pages.length) (hl : P.L.ok) : rightM (nextM P) = true := by
 have hk := h.roomOk ok hl; have hc := settleC_len hk; have hr := h.room; have h1 : 1 ≤ (settleC P).length := by rw [hc]; unfold needN; omega
 have h2 := List.mem_of_mem_take (head_mem h1); have h3 := hl.2.2.2.2.1 _ h2; rw [ok.lz] at h3; have h8 := h.hd.bas.z1; have h9 := h.hd.bas.z2; have hm := ok.mz; unfold rightM nextM beginsB; simp only [hm]; have hrt := h.rt; simp only [Bool.and_eq_true, Bool.or_eq_true, decide_eq_true_eq]; refine ⟨⟨⟨by omega, by omega⟩, ?_⟩, .inr h3⟩; rcases hrt with e | e
 · exact .inl e
 · exact .inr e
theorem Ses.commit (h : Ses S B P el) (ok : P.ok S.pages.length) (hl : P.L.ok) (ht : P.M.txn + 1 < 18446744073709551616) (hf : S.fuse = -1) :
 (commitR P S).2 = 0 ∧ (commitR P S).1.fuse = -1 ∧ Ses (commitR P S).1 (nextP P) (nextP P) B.M ∧ After S P (commitR P S).1 ∧ (commitR P S).1.pages.length = S.pages.length ∧ (commitR P S).1.done ≤ S.done + 2100 := by
 have hk := h.roomOk ok hl; obtain ⟨hin, _⟩ := first_put h.hd ok hl h.tr; obtain ⟨a1, a2⟩ := commit_alive hin h.hd.bas.z1 hf; obtain ⟨d1, d2, d3⟩ := commit_done h.hd ok hl h.tr ht (h.next_right ok hl) hk a1; have hsl := settle_len ok hl hk; have hcl := settleC_len hk; have hr := h.room; have hc := h.c1; have htot := total_le ok hl; have h8 := h.hd.bas.z1; have h9 := h.hd.bas.z2; refine ⟨a1, a2, ⟨d1, InTr.refl rfl, ?_, ?_, ?_⟩, d2, d3, ?_⟩
 · rw [d3]; show _ ≤ (settleL P).S.length; unfold needN at hcl; omega
 · show 1 ≤ (settleC P).length; rw [hcl]; unfold needN; omega
 · rw [d3]; exact h.rt
 · have h1 := storeS_done S (commitL P) ((((P.M.txn + 1) % 2 : Nat) : Int), sealed (bodyM (nextM P))); have h2 := commitL_len ok h9 hl; unfold commitR; omega
theorem Ses.add_ (h : Ses S B P el) {y : Int} {r : List Int} (hy : P.L.S = y :: r) (hs : S.pages.length / 60 + 2 ≤ P.L.S.length) (bs : List UInt8) : Ses S B (addP P y bs) el := by
 have hm : y ∈ P.L.S := by rw [hy]; exact List.mem_cons_self ..
 refine ⟨h.hd, ⟨h.tr.M, h.tr.ch, fun x hx => h.tr.s x (List.mem_of_mem_tail hx), fun x hx => ?_⟩, ?_, h.c1, h.rt⟩
 · by_cases e : x = y
   · rw [e]; exact h.tr.s y hm
   · have : (addP P y bs).add x = P.add x := if_neg e; rw [this] at hx; exact h.tr.a x hx
 · show _ ≤ P.L.S.tail.length; rw [List.length_tail]; omega
def Away (P : PSt) (z : Nat) (id : Int) : Prop := (2 ≤ id ∧ id < (z : Int)) ∧ id ∉ P.L.S ∧ id ∉ P.L.H ∧ id ∉ P.chain
structure Bears (P : PSt) (S : St) (x : Int × List UInt8) : Prop where
 away : Away P S.pages.length x.1
 l1 : 1 ≤ x.2.length
 l2 : x.2.length ≤ 237
 has : ∃ t : Nat, t < 18446744073709551616 ∧ bytesAt P S x.1 = sealed (bodyOf (txnP (pieceP x.2) t))
theorem bytesAt_some {P : PSt} {S : St} {id : Int} {bs : List UInt8} (h : P.add id = some bs) : bytesAt P S id = bs := by unfold bytesAt; rw [h]
theorem Bears.new {P : PSt} {S : St} (ok : P.ok S.pages.length) (hl : P.L.ok) {y : Int} {r : List Int} (hy : P.L.S = y :: r) {xs : List UInt8} (h1 : 1 ≤ xs.length) (h2 : xs.length ≤ 237) {t : Nat} (ht : t < 18446744073709551616) :
 Bears (addP P y (sealed (bodyOf (txnP (pieceP xs) t)))) S (y, xs) := by
 have hm : y ∈ P.L.S := by rw [hy]; exact List.mem_cons_self ..
 have hb := hl.2.2.2.2.1 y hm; rw [ok.lz] at hb; have hri : Rising (y :: r) := by rw [← hy]; exact hl.2.2.1
 refine ⟨⟨hb, ?_, ok.sh y hm, fun hc => (ok.cs y hc).1 hm⟩, h1, h2, t, ht, bytesAt_some (if_pos rfl)⟩; show y ∉ P.L.S.tail; rw [hy]; exact fun hm => by have := (Rising.cons.1 hri).1 y hm; omega
theorem Bears.reads {x : Int × List UInt8} (h : Bears P S x) : ∃ t : Nat, decPg (bytesAt P S x.1) = (txnP (pieceP x.2) t, 0) := by
 obtain ⟨t, ht, e⟩ := h.has; refine ⟨t, ?_⟩; rw [e]; exact decPg_sealed (piece_right h.l1 h.l2 t) (by show (0 : Int) ≤ (t : Int); omega) (by show (t : Int) < _; omega)
end
theorem base_ses (z : Nat) (h1 : 8 ≤ z) (h2 : z ≤ 1024) : Ses (formatted z) (baseP z) (baseP z) (meta0 z) := by
 obtain ⟨f1, f2, f3, f4, f5⟩ := formatted_spec z h1 h2; have e1 : (baseP z).L.S.length = z - 2 - needN (z - 2) := by
  show ((allIds z).drop (needN (z - 2))).length = _; rw [List.length_drop, allIds_length]
 have e2 : (baseP z).chain.length = min (needN (z - 2)) (z - 2) := by
  show ((allIds z).take (needN (z - 2))).length = _; rw [List.length_take, allIds_length]
 refine ⟨f5, InTr.refl rfl, ?_, ?_, .inl rfl⟩
 · rw [f3, e1]; unfold needN; omega
 · rw [e2]; unfold needN; omega
section
variable {w : World} {p : Pgl} {B P : PSt} {S : St} {el : Mt}
theorem commit_ses (h : Pgr w p P S) (hs : Ses S B P el) (hf : S.fuse = -1) (ht : P.M.txn + 1 < 18446744073709551616) (hd : S.done ≤ 700000) (hF : Fours w) :
 Calls Tryz.prog 14 #[.pointer (some ⟨p.r, 0, none⟩)] w fun e w' => e = .returned (.int .i64 0) ∧ Hid (PLeft w w' p (nextP P) (commitR P S).1) := by
 obtain ⟨h0, _⟩ := hs.commit h.ok h.lst.1 ht hf; have hc := commit_any h (hs.roomOk h.ok h.lst.1) ht (hs.next_right h.ok h.lst.1) hd hF; rw [h0] at hc; exact hc.mono fun e w' ⟨he, hl⟩ => ⟨he, kept (hl.out.2.2 h0)⟩
theorem read_bears (h : Pgr w p P S) (x : Int × List UInt8) (hb : Bears P S x) (hf : S.fuse ≠ 0) (hF : Fours w) :
 Calls Tryz.prog 42 #[.pointer (some ⟨p.r, 0, none⟩), .int .i64 x.1] w fun e w' => ∃ (l : Lay) (t : Nat), e = .returned (.tuple #[l.val, .int .i64 0]) ∧ Hid (RdPg w' l (txnP (pieceP x.2) t)) ∧ Below w.heap.size w w' := by
 have hfin : finB P.M.size x.1 = true := by rw [h.ok.mz]; simpa [finB] using hb.away.1
 obtain ⟨t, ht⟩ := hb.reads; have hr := pread_any h x.1 hfin hf hF; rw [ht] at hr; exact hr.mono fun e w' ⟨l, he, hs, hb⟩ => ⟨l, t, he, kept hs.out.here, hb⟩
end
theorem PLeft.go {w w' : World} {p : Pgl} {P' : PSt} {S' : St} (h : PLeft w w' p P' S') : ∃ p' : Pgl, p'.r = p.r ∧ p'.d = p.d ∧ Pgr w' p' P' S' ∧ Turned w w' p.all ∧ ∀ B, B ≤ w.heap.size → (∀ j, p.all j → B ≤ j) → ∀ j, p'.all j → B ≤ j := by
 obtain ⟨p1, e1, e2, h1, t1, o1⟩ := h; refine ⟨p1, e1, e2, h1, t1, fun B hB hn j hj => ?_⟩; rcases hj with hj | hj
 · rcases o1 j hj with h5 | h5
   · exact hn j (.inl h5)
   · omega
 · exact hn j (.inr (e2 ▸ hj))
theorem lives_any (w : World) (hF : Fours w) : Calls Tryz.prog 33 #[] w fun e w' => e = .returned (.bool true) ∧ Below w.heap.size w w' := by
 have hm := made_any 8 w (by omega) (by omega) hF; rw [show ((8 : Nat) : Int) = 8 from rfl] at hm; have HM := kept hm; clear hm; have HF := kept hF; obtain ⟨f1, f2, f3, f4, f5⟩ := formatted_spec 8 (by omega) (by omega); have hses := base_ses 8 (by omega) (by omega); have hS : (baseP 8).L.S = 3 :: [4, 5, 6, 7] := by decide
 have ht : (baseP 8).M.txn = 1 := rfl; generalize baseP 8 = P0 at HM hses hS ht; generalize formatted 8 = S0 at HM hses f2 f3 f4; generalize meta0 8 = el at hses; have HS := kept hS; have HT := kept ht; have HSES := kept hses; have HFU := kept f2; have HLN := kept f3; have HDN := kept f4; clear hF hses hS ht f1 f2 f3 f4 f5; have HTX := fun W => kept (text_any ⟨#[120]⟩ W (by decide))
 go_enter Tryz.func33, Tryz.ntmps33; go_wp2_with fail
 with_reducible refine HM.out.mono ?_
 rintro e w1 ⟨p, rfl, h1⟩; have H1 := kept h1.out; clear h1 HM; go_wp2_with fail
 with_reducible refine (HTX w1).out.mono ?_
 rintro e w2 ⟨l, rfl, h2, hb2⟩; have H2 := kept (H1.out.1.below hb2); have HB2 := kept (H1.out.2.1.trans (hb2.mono H1.out.2.1.size)); have HAD := kept (add_ok H2.out l _ h2.out (HF.out.below HB2.out) (by rw [HT.out]; decide) (piece_right (by decide) (by decide) _) (by rw [HLN.out, HS.out]; decide) 3 _ HS.out); clear h2 hb2; go_wp2_with fail
 with_reducible refine HAD.out.mono ?_
 rintro e w3 ⟨rfl, h3⟩; obtain ⟨p3, e3, d3, k3, t3, o3⟩ := h3.out.go; have HBR : Hid (Bears (addP P0 3 (sealed (bodyOf (txnP (pieceP [120]) (P0.M.txn + 1))))) S0 (3, [120])) := kept (Bears.new H2.out.ok H2.out.lst.1 HS.out (by decide) (by decide) (by rw [HT.out]; decide)); have HSE : Hid (Ses S0 P0 (addP P0 3 (sealed (bodyOf (txnP (pieceP [120]) (P0.M.txn + 1))))) el) := kept (HSES.out.add_ HS.out (by rw [HLN.out, HS.out]; decide) _); have HT1 : Hid ((addP P0 3 (sealed (bodyOf (txnP (pieceP [120]) (P0.M.txn + 1))))).M.txn = 1) := kept HT.out; have K3 : Hid (Pgr w3 p3 (addP P0 3 (sealed (bodyOf (txnP (pieceP [120]) (P0.M.txn + 1))))) S0) := kept k3; have HB3 : Hid (Below w.heap.size w w3) := kept (t3.only_new HB2.out HB2.out.size H1.out.2.2); have HA3 := kept (o3 _ HB2.out.size H1.out.2.2); clear HAD h3 t3 o3 k3; generalize addP P0 3 (sealed (bodyOf (txnP (pieceP [120]) (P0.M.txn + 1)))) = P3 at HBR HSE HT1 K3; have HRD := kept (read_bears K3.out (3, [120]) HBR.out (by rw [HFU.out]; decide) (HF.out.below HB3.out)); rw [e3] at HRD; go_wp2_with fail
 with_reducible refine HRD.out.mono ?_
 rintro e w4 ⟨l4, t4, rfl, h4, hb4⟩; have HB4 : Hid (Below w.heap.size w w4) := kept (HB3.out.trans (hb4.mono HB3.out.size)); have K4 := kept (K3.out.below hb4); obtain ⟨kind, txn, next, a1, n1, k1, a2, n2, k2, a3, n3, k3, a4, n4, k4⟩ := l4; have HKW := fun o => kept (K4.out.below ((Below.refl _ w4).alloc (Nat.le_refl _) o))
 have HBW := fun o => kept (HB4.out.alloc HB4.out.size o)
 have HCM := fun o => kept (commit_ses (HKW o).out HSE.out HFU.out (by rw [HT1.out]; decide) (by have := HDN.out; omega) (HF.out.below (HBW o).out))
 rw [e3] at HCM; have hcv : ∀ o, (convert 46 9 (.slice a3 n3 k3)).run Tryz.prog (w4.alloc o) = .ok (.string ⟨#[120]⟩) (w4.alloc o) := fun o => (h4.out.data.alloc o).string k3 46 5 9 rfl rfl rfl
 clear h4 hb4 HRD HTX; go_wp2_with (first | (go_at_call 14; (with_reducible refine ((HCM _).out).mono ?_); rintro e w5 ⟨rfl, h5⟩; obtain ⟨p5, e5, d5, k5, t5, o5⟩ := h5.out.go; have HTN := kept (txn_any k5); rw [e5, e3, show (nextP P3).M.txn = 2 from (show P3.M.txn + 1 = 2 by rw [HT1.out]), show ((2 : Nat) : Int) = 2 from rfl] at HTN; have HB5 := t5.only_new (HBW _).out (HBW _).out.size HA3.out) | (go_at_call 43; (with_reducible refine (HTN.out).mono ?_); rintro e w6 ⟨rfl, rfl⟩))
 go_ret; exact ⟨rfl, HB5⟩
end Go.Proofs.YtcapcobkildmcaaGreatDoor
end
section
/-
 A pager beside a slice of numbers; what PagerFills does, told of the pager's state.
-/
namespace Go.Proofs.YtcapcobkildmcaaGreatDoor
open Go.ChangeShapes Go.WideShapes Go.ChangeAt Go.RowKit
set_option linter.unusedVariables false
set_option linter.unusedSimpArgs false
theorem placed7 (a : Int) (m : Nat) (h0 : 0 < m) (h1 : m ≤ 4096) : ∃ r : Nat, r < m ∧ wrap64 ((IntKind.u64.wrap a).tmod (m : Int)) = (r : Int) := by
 rw [IntKind.wrap_u64]; have h2 : 0 ≤ a % 18446744073709551616 := Int.emod_nonneg _ (by omega); have e : (a % 18446744073709551616).tmod (m : Int) = a % 18446744073709551616 % (m : Int) := Int.tmod_eq_emod_of_nonneg h2; rw [e]; have h3 : 0 ≤ a % 18446744073709551616 % (m : Int) := Int.emod_nonneg _ (by omega); have h4 : a % 18446744073709551616 % (m : Int) < (m : Int) := Int.emod_lt_of_pos _ (by omega); rw [IntWalk.wrap64_in _ ⟨by omega, by omega⟩]; exact ⟨(a % 18446744073709551616 % (m : Int)).toNat, by omega, by omega⟩
section
variable {a w w' : World} {p : Pgl} {P P' : PSt} {S S' : St} {A A' : Option Addr} {n c n' c' : Nat} {I I' : List Int}
end
namespace pagerFills
section
variable {z k : Nat} {xs : List UInt8} {B P : PSt} {S : St} {el : Mt} {I : List Int}
end
end pagerFills
end Go.Proofs.YtcapcobkildmcaaGreatDoor
end
