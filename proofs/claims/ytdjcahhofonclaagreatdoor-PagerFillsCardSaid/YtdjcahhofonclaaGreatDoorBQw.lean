/-
  Texts laid together: Qw Qx Qy Qz PagerFillsWalk.
-/
import Derived.Test.YtdjcahhofonclaaGreatDoorBQu
import Derived.Test.YtdjcahhofonclaaGreatDoorBQo
import Derived.Test.YtdjcahhofonclaaGreatDoorBQh
import Derived.Lib.ConvBytes
section
/-
  The law's own small functions: Text, Made.
-/
namespace Go.Proofs.YtdjcahhofonclaaGreatDoor
open Go.ChangeShapes Go.WideShapes Go.ChangeAt Go.RowKit
set_option linter.unusedVariables false
set_option linter.unusedSimpArgs false

/-- A page of bytes. -/
def pieceP (xs : List UInt8) : Pg := ⟨3, 0, 0, [], [], xs, []⟩
theorem piece_right {xs : List UInt8} (h1 : 1 ≤ xs.length) (h2 : xs.length ≤ 237) (t : Nat) : rightB (txnP (pieceP xs) t) = true := by
  have e1 : (0 < xs.length) = True := by simp; omega
  simp [rightB, ownB, nextB, thingsB, usedN, txnP, pieceP, ordU, h2]
  exact h1
theorem bytesWorld_below_ (w : World) (e : TypeId) (s : ByteArray) : Below w.heap.size w (Lib.bytesWorld w e s) :=
  ⟨rfl, rfl, rfl, by rw [Lib.bytesWorld_size]; omega, fun j hj => Lib.bytesWorld_at_old w e s j hj⟩
theorem bytesWorld_rd (w : World) (e : TypeId) (s : ByteArray) : Rd (Lib.bytesWorld w e s) (some ⟨w.heap.size, 0, none⟩) s.size s.data.toList := by
  refine ⟨by simp, fun _ => ⟨_, rfl, fun j h => ?_⟩⟩
  have h0 : j < s.size := by have h := h; rw [Array.length_toList] at h; exact h
  have h1 := Lib.bytesWorld_cell w e s j h0
  rw [add_at, Nat.zero_add, h1]
  have h2 : s.data.toList.getD j 0 = s.data.toList[j] := by rw [List.getD_eq_getElem?_getD, List.getElem?_eq_getElem h]; rfl
  rw [h2]
  rfl
set_option maxRecDepth 100000 in
theorem text_any (s : ByteArray) (w : World) (hs : s.size ≤ 100000) :
    Calls Tryz.prog 25 #[.string s] w fun e w' => ∃ l : Lay, e = .returned l.val ∧ Hid (RdPg w' l (pieceP s.data.toList)) ∧ Below w.heap.size w w' := by
  have HS := kept hs
  have HCV : Hid (∀ W : World, (convert 9 62 (.string s)).run Tryz.prog W = .ok (.slice (some ⟨W.heap.size, 0, none⟩) s.size (grownCap W s.size 0 5)) (Lib.bytesWorld W 5 s)) := kept (fun W => Lib.run_convert_string_bytes W _ _ _ s rfl rfl rfl)
  clear hs
  go_enter Tryz.func25, Tryz.ntmps25
  have hcv := HCV.out (w.alloc (.cells #[.int .i64 0, .int .u64 0, .int .i64 0, .slice none 0 0, .slice none 0 0, .slice none 0 0, .slice none 0 0] 64))
  have hb0 := (Below.refl w.heap.size w).alloc (Nat.le_refl _) (.cells #[.int .i64 0, .int .u64 0, .int .i64 0, .slice none 0 0, .slice none 0 0, .slice none 0 0, .slice none 0 0] 64)
  have hb1 := bytesWorld_below_ (w.alloc (.cells #[.int .i64 0, .int .u64 0, .int .i64 0, .slice none 0 0, .slice none 0 0, .slice none 0 0, .slice none 0 0] 64)) 5 s
  have hk1 := (Blk.new w 64 #[.int .i64 0, .int .u64 0, .int .i64 0, .slice none 0 0, .slice none 0 0, .slice none 0 0, .slice none 0 0]).below hb1 (by simp)
  have hr1 := bytesWorld_rd (w.alloc (.cells #[.int .i64 0, .int .u64 0, .int .i64 0, .slice none 0 0, .slice none 0 0, .slice none 0 0, .slice none 0 0] 64)) 5 s
  have hsz0 : (w.alloc (.cells #[.int .i64 0, .int .u64 0, .int .i64 0, .slice none 0 0, .slice none 0 0, .slice none 0 0, .slice none 0 0] 64)).heap.size = w.heap.size + 1 := by simp
  rw [hsz0] at hcv hr1
  have hbb := hb0.trans (hb1.mono (by rw [hsz0]; omega))
  generalize grownCap (w.alloc (.cells #[.int .i64 0, .int .u64 0, .int .i64 0, .slice none 0 0, .slice none 0 0, .slice none 0 0, .slice none 0 0] 64)) s.size 0 5 = cc at hcv
  generalize Lib.bytesWorld (w.alloc (.cells #[.int .i64 0, .int .u64 0, .int .i64 0, .slice none 0 0, .slice none 0 0, .slice none 0 0, .slice none 0 0] 64)) 5 s = W1 at hcv hk1 hr1 hb1 hbb
  have HR1 := kept hr1
  have HBB := kept hbb
  have HK1 := kept hk1
  have p0 : W1.cell? ⟨w.heap.size, 0, none⟩ = some (.int .i64 0) := hk1.cell 0
  have t0 := hk1.frozen 0
  have p1 : W1.cell? ⟨w.heap.size, 1, none⟩ = some (.int .u64 0) := hk1.cell 1
  have t1 := hk1.frozen 1
  have p2 : W1.cell? ⟨w.heap.size, 2, none⟩ = some (.int .i64 0) := hk1.cell 2
  have t2 := hk1.frozen 2
  have p3 : W1.cell? ⟨w.heap.size, 3, none⟩ = some (.slice none 0 0) := hk1.cell 3
  have t3 := hk1.frozen 3
  have p4 : W1.cell? ⟨w.heap.size, 4, none⟩ = some (.slice none 0 0) := hk1.cell 4
  have t4 := hk1.frozen 4
  have p5 : W1.cell? ⟨w.heap.size, 5, none⟩ = some (.slice none 0 0) := hk1.cell 5
  have t5 := hk1.frozen 5
  have p6 : W1.cell? ⟨w.heap.size, 6, none⟩ = some (.slice none 0 0) := hk1.cell 6
  have t6 := hk1.frozen 6
  clear hb0 hb1 hk1 hr1 hsz0 hbb
  go_wp2
  have hb7 := ((((((HK1.out.set_ 0 (.int .i64 3)).set_ 1 (.int .u64 0)).set_ 2 (.int .i64 0)).set_ 3 (.slice none 0 0)).set_ 4 (.slice none 0 0)).set_ 5 (.slice (some ⟨w.heap.size + 1, 0, none⟩) s.size cc)).set_ 6 (.slice none 0 0)
  simp only [List.set_cons_zero, List.set_cons_succ] at hb7
  have ho7 := only7 W1 w.heap.size (.int .i64 3) (.int .u64 0) (.int .i64 0) (.slice none 0 0) (.slice none 0 0) (.slice (some ⟨w.heap.size + 1, 0, none⟩) s.size cc) (.slice none 0 0)
  unfold set7 at ho7
  generalize (((((((W1.setCell ⟨w.heap.size, 0, none⟩ (.int .i64 3)).setCell ⟨w.heap.size, 1, none⟩ (.int .u64 0)).setCell ⟨w.heap.size, 2, none⟩ (.int .i64 0)).setCell ⟨w.heap.size, 3, none⟩ (.slice none 0 0)).setCell ⟨w.heap.size, 4, none⟩ (.slice none 0 0)).setCell ⟨w.heap.size, 5, none⟩ (.slice (some ⟨w.heap.size + 1, 0, none⟩) s.size cc)).setCell ⟨w.heap.size, 6, none⟩ (.slice none 0 0)) = X at hb7 ho7 ⊢
  have x0 : X.cell? ⟨w.heap.size, 0, none⟩ = some (.int .i64 3) := hb7.cell 0
  have x1 : X.cell? ⟨w.heap.size, 1, none⟩ = some (.int .u64 0) := hb7.cell 1
  have x2 : X.cell? ⟨w.heap.size, 2, none⟩ = some (.int .i64 0) := hb7.cell 2
  have x3 : X.cell? ⟨w.heap.size, 3, none⟩ = some (.slice none 0 0) := hb7.cell 3
  have x4 : X.cell? ⟨w.heap.size, 4, none⟩ = some (.slice none 0 0) := hb7.cell 4
  have x5 : X.cell? ⟨w.heap.size, 5, none⟩ = some (.slice (some ⟨w.heap.size + 1, 0, none⟩) s.size cc) := hb7.cell 5
  have x6 : X.cell? ⟨w.heap.size, 6, none⟩ = some (.slice none 0 0) := hb7.cell 6
  have hrX : Rd X (some ⟨w.heap.size + 1, 0, none⟩) s.size s.data.toList := HR1.out.only (fun a e h0 => by cases e; show w.heap.size + 1 ≠ w.heap.size; omega) ho7
  exact bodyPost_ret (v := .agg #[.int .i64 3, .int .u64 0, .int .i64 0, .slice none 0 0, .slice none 0 0, .slice (some ⟨w.heap.size + 1, 0, none⟩) s.size cc, .slice none 0 0]) (by simp [results, Tryz.results25, go_sem, x0, x1, x2, x3, x4, x5, x6]) rfl ⟨⟨3, 0, 0, none, 0, 0, none, 0, 0, some ⟨w.heap.size + 1, 0, none⟩, s.size, cc, none, 0, 0⟩, rfl, kept ⟨rfl, rfl, rfl, RdItems.nil_ _ _, RdKids.nil_ _ _, hrX, RdNums.nil_ _ _, Int.le_refl 0, (by show (0 : Int) < _; omega), Nat.zero_le _, Nat.zero_le _, by show s.size ≤ _; have := HS.out; omega, Nat.zero_le _⟩, ho7.below HBB.out HBB.out.size (Nat.le_refl _)⟩
set_option maxRecDepth 100000 in
theorem made_any (z : Nat) (w : World) (h1 : 8 ≤ z) (h2 : z ≤ 1024) (hF : Fours w) :
    Calls Tryz.prog 9 #[.int .i64 (z : Int)] w fun e w' => ∃ p : Pgl, e = .returned (.tuple #[.pointer (some ⟨p.d.r, 0, none⟩), .pointer (some ⟨p.r, 0, none⟩)]) ∧ Hid (Pgr w' p (baseP z) (formatted z) ∧ Below w.heap.size w w' ∧ ∀ j, p.all j → w.heap.size ≤ j) := by
  have HN := kept (new_any z w h1 h2)
  have HF := kept hF
  obtain ⟨f1, f2, f3, f4, f5⟩ := formatted_spec z h1 h2
  have HO := f5.opens
  have HFM := kept (fun (d : Dk) (W : World) (hd : Dsk W d (fresh z)) (hb : Below w.heap.size w W) => format_any d (fresh z) W hd (by show (0 : Nat) ≤ _; omega) (hF.below hb))
  rw [fresh_len, f1] at HFM
  have HOP := kept (fun (d : Dk) (W : World) (hd : Dsk W d (formatted z)) (hb : Below w.heap.size w W) => open_ok d (formatted z) W hd (by rw [f2]; decide) (hF.below hb) HO.1)
  rw [HO.2] at HOP
  clear h1 h2 hF f1 f2 f3 f4 f5 HO
  go_enter Tryz.func9, Tryz.ntmps9
  go_wp2_with fail
  with_reducible refine HN.out.mono ?_
  rintro e w1 ⟨d, rfl, hd, hn, hb1⟩
  have HD := kept hd
  have HDN := kept hn
  have HB1 := kept hb1
  have HF1 := kept (HFM.out d w1 hd hb1)
  clear hd hn hb1
  go_wp2_with fail
  with_reducible refine HF1.out.mono ?_
  rintro e w2 ⟨rfl, h2⟩
  have HB2 : Hid (Below w.heap.size w w2) := kept (h2.out.2.only_new HB1.out HB1.out.size HDN.out)
  have HO2 := kept (HOP.out d w2 h2.out.1 HB2.out)
  go_wp2_with fail
  with_reducible refine HO2.out.mono ?_
  rintro e w3 ⟨p, rfl, h3⟩
  go_wp2
  go_ret2
  refine ⟨p, by rw [h3.out.1]; rfl, kept ⟨h3.out.2.1, HB2.out.trans (h3.out.2.2.1.mono HB2.out.size), fun j hj => ?_⟩⟩
  rcases hj with hj | hj
  · exact Nat.le_trans HB2.out.size (h3.out.2.2.2 j hj)
  · rw [h3.out.1] at hj
    exact HDN.out j hj
end Go.Proofs.YtdjcahhofonclaaGreatDoor
end

section
/-
  A session with a pager: the base that lies on the disk, and the transaction over it; the pages that it bears. No call is walked here.
-/
namespace Go.Proofs.YtdjcahhofonclaaGreatDoor
open Go.ChangeShapes Go.WideShapes Go.ChangeAt Go.RowKit
set_option linter.unusedVariables false
set_option linter.unusedSimpArgs false

structure Ses (S : St) (B P : PSt) (el : Mt) : Prop where
  hd : OnDisk S B el
  tr : InTr B P
  room : S.pages.length / 60 + 1 ≤ P.L.S.length
  c1 : 1 ≤ P.chain.length
  rt : P.root = 0 ∨ (2 ≤ P.root ∧ P.root < (S.pages.length : Int))
theorem nodup_len {C : List Int} {z : Nat} (hn : C.Nodup) (hb : ∀ x ∈ C, 2 ≤ x ∧ x < (z : Int)) : C.length ≤ z - 2 := by
  have hp : (C.mergeSort (fun x y => decide (x ≤ y))).Perm C := List.mergeSort_perm _ _
  rw [← hp.length_eq]
  have hr : Rising (C.mergeSort (fun x y => decide (x ≤ y))) := sorted_rising hn
  rcases hr.length_le (a := 2) (b := z) (fun x hx => (hb x (hp.mem_iff.1 hx)).1) (fun x hx => (hb x (hp.mem_iff.1 hx)).2) with h | h
  · rw [h]; exact Nat.zero_le _
  · omega
section
variable {B P : PSt} {S : St} {el : Mt} {z : Nat}
theorem total_le (h : P.ok z) (hl : P.L.ok) : P.L.S.length + P.L.H.length + P.chain.length ≤ z - 2 := by
  have hS : P.L.S.Nodup := hl.2.2.1.imp fun h => by omega
  have hH : P.L.H.Nodup := hl.2.2.2.1.imp fun h => by omega
  have hn : (P.L.S ++ P.L.H ++ P.chain).Nodup := by
    rw [List.nodup_append, List.nodup_append]
    refine ⟨⟨hS, hH, fun x hx y hy e => h.sh x hx (e ▸ hy)⟩, h.cn, fun x hx y hy e => ?_⟩
    subst e
    rcases List.mem_append.1 hx with hx | hx
    · exact (h.cs x hy).1 hx
    · exact (h.cs x hy).2 hx
  have hb : ∀ x ∈ P.L.S ++ P.L.H ++ P.chain, 2 ≤ x ∧ x < (z : Int) := fun x hx => by
    rw [← h.lz]
    rcases List.mem_append.1 hx with hx | hx
    · rcases List.mem_append.1 hx with hx | hx
      · exact hl.2.2.2.2.1 x hx
      · exact hl.2.2.2.2.2 x hx
    · rw [h.lz]; exact h.cb x hx
  have := nodup_len hn hb
  rwa [List.length_append, List.length_append] at this
theorem Ses.roomOk (h : Ses S B P el) (ok : P.ok S.pages.length) (hl : P.L.ok) : RoomOk P := by
  have h1 := total_le ok hl
  have h2 := h.room
  have h3 := h.hd.bas.z1
  unfold RoomOk needN
  omega
theorem addAll_len {H : List Int} : ∀ {S : List Int}, H.Nodup → (∀ x ∈ H, x ∉ S) → (addAll S H).length = S.length + H.length := by
  induction H with
  | nil => intro S _ _; rfl
  | cons x r ih =>
    intro S hn hd
    have h1 := List.nodup_cons.1 hn
    have e : addI x S = ins x S := by unfold addI; rw [if_neg (hd x (List.mem_cons_self ..))]
    show (addAll (addI x S) r).length = _
    rw [ih h1.2 (fun y hy hm => ?_), e, ins_length, List.length_cons]
    · omega
    · rcases mem_addI.1 hm with hm | hm
      · exact h1.1 (hm ▸ hy)
      · exact hd y (List.mem_cons_of_mem _ hy) hm
theorem settle_len (h : P.ok z) (hl : P.L.ok) (hk : RoomOk P) : (settleL P).S.length + (settleC P).length = P.L.S.length + P.L.H.length + P.chain.length := by
  have hc : ∀ x ∈ P.chain, 2 ≤ x ∧ x < P.L.z := fun x hx => by rw [h.lz]; exact h.cb x hx
  have hH : P.L.H.Nodup := hl.2.2.2.1.imp fun h => by omega
  have h1 : (addAll (P.L.S.drop (needN (P.L.S.length + P.L.H.length + P.chain.length))) P.L.H).length = _ := addAll_len hH fun x hx hm => h.sh x (List.mem_of_mem_drop hm) hx
  have h2 : (addAll (addAll (P.L.S.drop (needN (P.L.S.length + P.L.H.length + P.chain.length))) P.L.H) P.chain).length = _ := addAll_len h.cn fun x hx hm => by
    rcases mem_addAll.1 hm with hm | hm
    · exact (h.cs x hx).1 (List.mem_of_mem_drop hm)
    · exact (h.cs x hx).2 hm
  rw [settleL_is hc, settleC_len hk]
  show (addAll (addAll _ _) _).length + _ = _
  rw [h2, h1, List.length_drop]
  unfold RoomOk at hk
  omega
theorem keysL_len (h : P.ok z) (hz : z ≤ 1024) : (keysL P.add).length ≤ 1022 :=
  rising_le (keysL_rising P.add) fun x hx => add_range h hz x ((mem_keysL (add_range h hz) x).1 hx)
theorem storeS_done (S : St) (l : List Sheet) (t : Sheet) : (storeS S l t).1.done ≤ S.done + l.length + 3 := by
  have h1 := putS_done l S
  unfold storeS
  split
  · have h2 := putS_done [t] (putS S l).1
    simp only [List.length_singleton] at h2
    omega
  · omega
theorem commitL_len (h : P.ok z) (hz : z ≤ 1024) (hl : P.L.ok) : (commitL P).length ≤ 2044 := by
  unfold commitL
  rw [List.length_append, layC_length]
  have h1 := keysL_len h hz
  have h2 : (settleC P).length ≤ 1022 := by
    have := hl.short.1
    unfold settleC
    rw [List.length_take]
    omega
  have h3 : (adSh P.add).length = (keysL P.add).length := by unfold adSh; rw [List.length_map]
  omega
theorem commit_alive (hin : ∀ x ∈ commitL P, inR S x.1) (h8 : 8 ≤ S.pages.length) (hf : S.fuse = -1) : (commitR P S).2 = 0 ∧ (commitR P S).1.fuse = -1 := by
  have h1 := putS_alive (commitL P) S hf hin
  have hl := putS_len (commitL P) S
  have h2 := putS_alive [((((P.M.txn + 1) % 2 : Nat) : Int), sealed (bodyM (nextM P)))] (putS S (commitL P)).1 h1.2 (fun x hx => by
    rw [List.mem_singleton.1 hx]
    exact place_in (by omega) _)
  unfold commitR storeS
  rw [if_pos h1.1]
  exact h2
theorem head_mem {C : List Int} (h : 1 ≤ C.length) : headN C ∈ C := by
  cases C with
  | nil => simp at h
  | cons x r => exact List.mem_cons_self ..
theorem Ses.next_right (h : Ses S B P el) (ok : P.ok S.pages.length) (hl : P.L.ok) : rightM (nextM P) = true := by
  have hk := h.roomOk ok hl
  have hc := settleC_len hk
  have hr := h.room
  have h1 : 1 ≤ (settleC P).length := by rw [hc]; unfold needN; omega
  have h2 := List.mem_of_mem_take (head_mem h1)
  have h3 := hl.2.2.2.2.1 _ h2
  rw [ok.lz] at h3
  have h8 := h.hd.bas.z1
  have h9 := h.hd.bas.z2
  have hm := ok.mz
  unfold rightM nextM beginsB
  simp only [hm]
  have hrt := h.rt
  simp only [Bool.and_eq_true, Bool.or_eq_true, decide_eq_true_eq]
  refine ⟨⟨⟨by omega, by omega⟩, ?_⟩, .inr h3⟩
  rcases hrt with e | e
  · exact .inl e
  · exact .inr e
theorem Ses.commit (h : Ses S B P el) (ok : P.ok S.pages.length) (hl : P.L.ok) (ht : P.M.txn + 1 < 18446744073709551616) (hf : S.fuse = -1) :
    (commitR P S).2 = 0 ∧ (commitR P S).1.fuse = -1 ∧ Ses (commitR P S).1 (nextP P) (nextP P) B.M ∧ After S P (commitR P S).1 ∧ (commitR P S).1.pages.length = S.pages.length ∧ (commitR P S).1.done ≤ S.done + 2100 := by
  have hk := h.roomOk ok hl
  obtain ⟨hin, _⟩ := first_put h.hd ok hl h.tr
  obtain ⟨a1, a2⟩ := commit_alive hin h.hd.bas.z1 hf
  obtain ⟨d1, d2, d3⟩ := commit_done h.hd ok hl h.tr ht (h.next_right ok hl) hk a1
  have hsl := settle_len ok hl hk
  have hcl := settleC_len hk
  have hr := h.room
  have hc := h.c1
  have htot := total_le ok hl
  have h8 := h.hd.bas.z1
  have h9 := h.hd.bas.z2
  refine ⟨a1, a2, ⟨d1, InTr.refl rfl, ?_, ?_, ?_⟩, d2, d3, ?_⟩
  · rw [d3]
    show _ ≤ (settleL P).S.length
    unfold needN at hcl
    omega
  · show 1 ≤ (settleC P).length
    rw [hcl]; unfold needN; omega
  · rw [d3]; exact h.rt
  · have h1 := storeS_done S (commitL P) ((((P.M.txn + 1) % 2 : Nat) : Int), sealed (bodyM (nextM P)))
    have h2 := commitL_len ok h9 hl
    unfold commitR
    omega
theorem Ses.add_ (h : Ses S B P el) {y : Int} {r : List Int} (hy : P.L.S = y :: r) (hs : S.pages.length / 60 + 2 ≤ P.L.S.length) (bs : List UInt8) : Ses S B (addP P y bs) el := by
  have hm : y ∈ P.L.S := by rw [hy]; exact List.mem_cons_self ..
  refine ⟨h.hd, ⟨h.tr.M, h.tr.ch, fun x hx => h.tr.s x (List.mem_of_mem_tail hx), fun x hx => ?_⟩, ?_, h.c1, h.rt⟩
  · by_cases e : x = y
    · rw [e]; exact h.tr.s y hm
    · have : (addP P y bs).add x = P.add x := if_neg e
      rw [this] at hx
      exact h.tr.a x hx
  · show _ ≤ P.L.S.tail.length
    rw [List.length_tail]
    omega
theorem Ses.root_ (h : Ses S B P el) {r : Int} (hr : r = 0 ∨ (2 ≤ r ∧ r < (S.pages.length : Int))) : Ses S B { P with root := r } el := ⟨h.hd, ⟨h.tr.M, h.tr.ch, h.tr.s, h.tr.a⟩, h.room, h.c1, hr⟩
theorem Ses.drop_ (h : Ses S B P el) (id : Int) : Ses S B (dropP P id).1 el := by
  unfold dropP
  split
  · exact h
  · split
    · exact h
    · split
      · rename_i hs
        refine ⟨h.hd, ⟨h.tr.M, h.tr.ch, fun x hx => ?_, fun x hx => ?_⟩, ?_, h.c1, h.rt⟩
        · have hx : x ∈ (P.L.give id).S := hx
          unfold FSt.give at hx
          split at hx
          · rcases mem_addI.1 hx with e | hx
            · rw [e]; exact h.tr.a id hs
            · exact h.tr.s x hx
          · exact h.tr.s x hx
        · by_cases e : x = id
          · rw [e]; exact h.tr.a id hs
          · refine h.tr.a x ?_
            have hx : (if x = id then none else P.add x).isSome = true := hx
            rwa [if_neg e] at hx
        · have := h.room
          show _ ≤ (P.L.give id).S.length
          unfold FSt.give
          split
          · show _ ≤ (addI id P.L.S).length
            unfold addI
            split
            · exact this
            · rw [ins_length]; omega
          · exact this
      · refine ⟨h.hd, ⟨h.tr.M, h.tr.ch, fun x hx => ?_, h.tr.a⟩, ?_, h.c1, h.rt⟩
        · have hx : x ∈ (P.L.hold id).S := hx
          unfold FSt.hold at hx
          split at hx <;> exact h.tr.s x hx
        · have := h.room
          show _ ≤ (P.L.hold id).S.length
          unfold FSt.hold
          split <;> exact this

/-! ### the pages that it bears -/
def Away (P : PSt) (z : Nat) (id : Int) : Prop := (2 ≤ id ∧ id < (z : Int)) ∧ id ∉ P.L.S ∧ id ∉ P.L.H ∧ id ∉ P.chain
structure Bears (P : PSt) (S : St) (x : Int × List UInt8) : Prop where
  away : Away P S.pages.length x.1
  l1 : 1 ≤ x.2.length
  l2 : x.2.length ≤ 237
  has : ∃ t : Nat, t < 18446744073709551616 ∧ bytesAt P S x.1 = sealed (bodyOf (txnP (pieceP x.2) t))
theorem bytesAt_some {P : PSt} {S : St} {id : Int} {bs : List UInt8} (h : P.add id = some bs) : bytesAt P S id = bs := by unfold bytesAt; rw [h]
theorem bytesAt_none {P : PSt} {S : St} {id : Int} (h : P.add id = none) : bytesAt P S id = S.page id := by unfold bytesAt; rw [h]
theorem Bears.add_ {x : Int × List UInt8} (h : Bears P S x) {y : Int} {r : List Int} (hy : P.L.S = y :: r) (bs : List UInt8) : Bears (addP P y bs) S x := by
  have hm : y ∈ P.L.S := by rw [hy]; exact List.mem_cons_self ..
  have hne : x.1 ≠ y := fun e => h.away.2.1 (e ▸ hm)
  refine ⟨⟨h.away.1, fun hx => h.away.2.1 (List.mem_of_mem_tail hx), h.away.2.2⟩, h.l1, h.l2, ?_⟩
  have e : (addP P y bs).add x.1 = P.add x.1 := if_neg hne
  have e2 : bytesAt (addP P y bs) S x.1 = bytesAt P S x.1 := by unfold bytesAt; rw [e]
  rw [e2]
  exact h.has
theorem Bears.new {P : PSt} {S : St} (ok : P.ok S.pages.length) (hl : P.L.ok) {y : Int} {r : List Int} (hy : P.L.S = y :: r) {xs : List UInt8} (h1 : 1 ≤ xs.length) (h2 : xs.length ≤ 237) {t : Nat} (ht : t < 18446744073709551616) :
    Bears (addP P y (sealed (bodyOf (txnP (pieceP xs) t)))) S (y, xs) := by
  have hm : y ∈ P.L.S := by rw [hy]; exact List.mem_cons_self ..
  have hb := hl.2.2.2.2.1 y hm
  rw [ok.lz] at hb
  have hri : Rising (y :: r) := by rw [← hy]; exact hl.2.2.1
  refine ⟨⟨hb, ?_, ok.sh y hm, fun hc => (ok.cs y hc).1 hm⟩, h1, h2, t, ht, bytesAt_some (if_pos rfl)⟩
  show y ∉ P.L.S.tail
  rw [hy]
  exact fun hm => by have := (Rising.cons.1 hri).1 y hm; omega
theorem Bears.root_ {x : Int × List UInt8} (h : Bears P S x) (r : Int) : Bears { P with root := r } S x := ⟨h.away, h.l1, h.l2, h.has⟩
theorem Bears.commit {x : Int × List UInt8} (h : Bears P S x) (ok : P.ok S.pages.length) (hz : S.pages.length ≤ 1024) {S' : St} (ha : After S P S') (hl : S'.pages.length = S.pages.length) : Bears (nextP P) S' x := by
  have hc : ∀ x ∈ P.chain, 2 ≤ x ∧ x < P.L.z := fun x hx => by rw [ok.lz]; exact ok.cb x hx
  refine ⟨⟨by rw [hl]; exact h.away.1, fun hm => ?_, fun hm => ?_, fun hm => h.away.2.1 (List.mem_of_mem_take hm)⟩, h.l1, h.l2, ?_⟩
  · rcases (mem_settleL hc x.1).1 hm with hm | hm | hm
    · exact h.away.2.1 (List.mem_of_mem_drop hm)
    · exact h.away.2.2.1 hm
    · exact h.away.2.2.2 hm
  · have hm : x.1 ∈ (settleL P).H := hm
    rw [settleL_is hc] at hm
    cases hm
  · obtain ⟨t, ht, e⟩ := h.has
    refine ⟨t, ht, ?_⟩
    rw [← e]
    have e1 : bytesAt (nextP P) S' x.1 = S'.page x.1 := bytesAt_none rfl
    rw [e1]
    cases hx : P.add x.1 with
    | some bs => rw [bytesAt_some hx]; exact ha.new x.1 bs hx
    | none =>
      rw [bytesAt_none hx]
      refine ha.old x.1 ⟨by have := h.away.1.1; omega, h.away.1.2⟩ h.away.1.1 fun hm => ?_
      rw [commitL_ids] at hm
      rcases List.mem_append.1 hm with hm | hm
      · have := (mem_keysL (add_range ok hz) x.1).1 hm
        rw [hx] at this
        cases this
      · exact h.away.2.1 (List.mem_of_mem_take hm)
/-- What Read finds. -/
theorem Bears.reads {x : Int × List UInt8} (h : Bears P S x) : ∃ t : Nat, decPg (bytesAt P S x.1) = (txnP (pieceP x.2) t, 0) := by
  obtain ⟨t, ht, e⟩ := h.has
  refine ⟨t, ?_⟩
  rw [e]
  exact decPg_sealed (piece_right h.l1 h.l2 t) (by show (0 : Int) ≤ (t : Int); omega) (by show (t : Int) < _; omega)
end
/-! ### a formatted disk -/
theorem base_ses (z : Nat) (h1 : 8 ≤ z) (h2 : z ≤ 1024) : Ses (formatted z) (baseP z) (baseP z) (meta0 z) := by
  obtain ⟨f1, f2, f3, f4, f5⟩ := formatted_spec z h1 h2
  have e1 : (baseP z).L.S.length = z - 2 - needN (z - 2) := by
    show ((allIds z).drop (needN (z - 2))).length = _
    rw [List.length_drop, allIds_length]
  have e2 : (baseP z).chain.length = min (needN (z - 2)) (z - 2) := by
    show ((allIds z).take (needN (z - 2))).length = _
    rw [List.length_take, allIds_length]
  refine ⟨f5, InTr.refl rfl, ?_, ?_, .inl rfl⟩
  · rw [f3, e1]; unfold needN; omega
  · rw [e2]; unfold needN; omega
end Go.Proofs.YtdjcahhofonclaaGreatDoor
end

section
/-
  Commit and Read in a session; the law's lives.
-/
namespace Go.Proofs.YtdjcahhofonclaaGreatDoor
open Go.ChangeShapes Go.WideShapes Go.ChangeAt Go.RowKit
set_option linter.unusedVariables false
set_option linter.unusedSimpArgs false

section
variable {w : World} {p : Pgl} {B P : PSt} {S : St} {el : Mt}
theorem commit_ses (h : Pgr w p P S) (hs : Ses S B P el) (hf : S.fuse = -1) (ht : P.M.txn + 1 < 18446744073709551616) (hd : S.done ≤ 700000) (hF : Fours w) :
    Calls Tryz.prog 13 #[.pointer (some ⟨p.r, 0, none⟩)] w fun e w' => e = .returned (.int .i64 0) ∧ Hid (PLeft w w' p (nextP P) (commitR P S).1) := by
  obtain ⟨h0, _⟩ := hs.commit h.ok h.lst.1 ht hf
  have hc := commit_any h (hs.roomOk h.ok h.lst.1) ht (hs.next_right h.ok h.lst.1) hd hF
  rw [h0] at hc
  exact hc.mono fun e w' ⟨he, hl⟩ => ⟨he, kept (hl.out.2.2 h0)⟩
theorem read_bears (h : Pgr w p P S) (x : Int × List UInt8) (hb : Bears P S x) (hf : S.fuse ≠ 0) (hF : Fours w) :
    Calls Tryz.prog 35 #[.pointer (some ⟨p.r, 0, none⟩), .int .i64 x.1] w fun e w' => ∃ (l : Lay) (t : Nat), e = .returned (.tuple #[l.val, .int .i64 0]) ∧ Hid (RdPg w' l (txnP (pieceP x.2) t)) ∧ Below w.heap.size w w' := by
  have hfin : finB P.M.size x.1 = true := by rw [h.ok.mz]; simpa [finB] using hb.away.1
  obtain ⟨t, ht⟩ := hb.reads
  have hr := pread_any h x.1 hfin hf hF
  rw [ht] at hr
  exact hr.mono fun e w' ⟨l, he, hs, hb⟩ => ⟨l, t, he, kept hs.out.here, hb⟩
theorem PLeft.below {a w w' : World} {P' : PSt} {S' : St} (h : PLeft w w' p P' S') (hb : Below a.heap.size a w) (hn : ∀ j, p.all j → a.heap.size ≤ j) : Below a.heap.size a w' := by
  obtain ⟨p1, e1, e2, h1, t1, o1⟩ := h
  exact t1.only_new hb hb.size hn
end
/-- Where a pager and its disk lie: above a bound. -/
theorem PLeft.go {w w' : World} {p : Pgl} {P' : PSt} {S' : St} (h : PLeft w w' p P' S') : ∃ p' : Pgl, p'.r = p.r ∧ p'.d = p.d ∧ Pgr w' p' P' S' ∧ Turned w w' p.all ∧ ∀ B, B ≤ w.heap.size → (∀ j, p.all j → B ≤ j) → ∀ j, p'.all j → B ≤ j := by
  obtain ⟨p1, e1, e2, h1, t1, o1⟩ := h
  refine ⟨p1, e1, e2, h1, t1, fun B hB hn j hj => ?_⟩
  rcases hj with hj | hj
  · rcases o1 j hj with h5 | h5
    · exact hn j (.inl h5)
    · omega
  · exact hn j (.inr (e2 ▸ hj))
set_option maxRecDepth 100000 in
set_option maxHeartbeats 4000000 in
theorem lives_any (w : World) (hF : Fours w) : Calls Tryz.prog 8 #[] w fun e w' => e = .returned (.bool true) ∧ Below w.heap.size w w' := by
  have hm := made_any 8 w (by omega) (by omega) hF
  rw [show ((8 : Nat) : Int) = 8 from rfl] at hm
  have HM := kept hm
  clear hm
  have HF := kept hF
  obtain ⟨f1, f2, f3, f4, f5⟩ := formatted_spec 8 (by omega) (by omega)
  have hses := base_ses 8 (by omega) (by omega)
  have hS : (baseP 8).L.S = 3 :: [4, 5, 6, 7] := by decide
  have ht : (baseP 8).M.txn = 1 := rfl
  generalize baseP 8 = P0 at HM hses hS ht
  generalize formatted 8 = S0 at HM hses f2 f3 f4
  generalize meta0 8 = el at hses
  have HS := kept hS
  have HT := kept ht
  have HSES := kept hses
  have HFU := kept f2
  have HLN := kept f3
  have HDN := kept f4
  clear hF hses hS ht f1 f2 f3 f4 f5
  have HTX := fun W => kept (text_any ⟨#[120]⟩ W (by decide))
  go_enter Tryz.func8, Tryz.ntmps8
  go_wp2_with fail
  with_reducible refine HM.out.mono ?_
  rintro e w1 ⟨p, rfl, h1⟩
  have H1 := kept h1.out
  clear h1 HM
  go_wp2_with fail
  with_reducible refine (HTX w1).out.mono ?_
  rintro e w2 ⟨l, rfl, h2, hb2⟩
  have H2 := kept (H1.out.1.below hb2)
  have HB2 := kept (H1.out.2.1.trans (hb2.mono H1.out.2.1.size))
  have HAD := kept (add_ok H2.out l _ h2.out (HF.out.below HB2.out) (by rw [HT.out]; decide) (piece_right (by decide) (by decide) _) (by rw [HLN.out, HS.out]; decide) 3 _ HS.out)
  clear h2 hb2
  go_wp2_with fail
  with_reducible refine HAD.out.mono ?_
  rintro e w3 ⟨rfl, h3⟩
  obtain ⟨p3, e3, d3, k3, t3, o3⟩ := h3.out.go
  have HBR : Hid (Bears (addP P0 3 (sealed (bodyOf (txnP (pieceP [120]) (P0.M.txn + 1))))) S0 (3, [120])) := kept (Bears.new H2.out.ok H2.out.lst.1 HS.out (by decide) (by decide) (by rw [HT.out]; decide))
  have HSE : Hid (Ses S0 P0 (addP P0 3 (sealed (bodyOf (txnP (pieceP [120]) (P0.M.txn + 1))))) el) := kept (HSES.out.add_ HS.out (by rw [HLN.out, HS.out]; decide) _)
  have HT1 : Hid ((addP P0 3 (sealed (bodyOf (txnP (pieceP [120]) (P0.M.txn + 1))))).M.txn = 1) := kept HT.out
  have K3 : Hid (Pgr w3 p3 (addP P0 3 (sealed (bodyOf (txnP (pieceP [120]) (P0.M.txn + 1))))) S0) := kept k3
  have HB3 : Hid (Below w.heap.size w w3) := kept (t3.only_new HB2.out HB2.out.size H1.out.2.2)
  have HA3 := kept (o3 _ HB2.out.size H1.out.2.2)
  clear HAD h3 t3 o3 k3
  generalize addP P0 3 (sealed (bodyOf (txnP (pieceP [120]) (P0.M.txn + 1)))) = P3 at HBR HSE HT1 K3
  have HRD := kept (read_bears K3.out (3, [120]) HBR.out (by rw [HFU.out]; decide) (HF.out.below HB3.out))
  rw [e3] at HRD
  go_wp2_with fail
  with_reducible refine HRD.out.mono ?_
  rintro e w4 ⟨l4, t4, rfl, h4, hb4⟩
  have HB4 : Hid (Below w.heap.size w w4) := kept (HB3.out.trans (hb4.mono HB3.out.size))
  have K4 := kept (K3.out.below hb4)
  obtain ⟨kind, txn, next, a1, n1, k1, a2, n2, k2, a3, n3, k3, a4, n4, k4⟩ := l4
  have HKW := fun o => kept (K4.out.below ((Below.refl _ w4).alloc (Nat.le_refl _) o))
  have HBW := fun o => kept (HB4.out.alloc HB4.out.size o)
  have HCM := fun o => kept (commit_ses (HKW o).out HSE.out HFU.out (by rw [HT1.out]; decide) (by have := HDN.out; omega) (HF.out.below (HBW o).out))
  rw [e3] at HCM
  have hcv : ∀ o, (convert 62 9 (.slice a3 n3 k3)).run Tryz.prog (w4.alloc o) = .ok (.string ⟨#[120]⟩) (w4.alloc o) := fun o => (h4.out.data.alloc o).string k3 62 5 9 rfl rfl rfl
  clear h4 hb4 HRD HTX
  go_wp2_with (first | (go_at_call 13; (with_reducible refine ((HCM _).out).mono ?_); rintro e w5 ⟨rfl, h5⟩; obtain ⟨p5, e5, d5, k5, t5, o5⟩ := h5.out.go; have HTN := kept (txn_any k5); rw [e5, e3, show (nextP P3).M.txn = 2 from (show P3.M.txn + 1 = 2 by rw [HT1.out]), show ((2 : Nat) : Int) = 2 from rfl] at HTN; have HB5 := t5.only_new (HBW _).out (HBW _).out.size HA3.out) | (go_at_call 14; (with_reducible refine (HTN.out).mono ?_); rintro e w6 ⟨rfl, rfl⟩))
  go_ret
  exact ⟨rfl, HB5⟩
end Go.Proofs.YtdjcahhofonclaaGreatDoor
end

section
/-
  A pager beside a slice of numbers; what PagerFills does, told of the pager's state.
-/
namespace Go.Proofs.YtdjcahhofonclaaGreatDoor
open Go.ChangeShapes Go.WideShapes Go.ChangeAt Go.RowKit
set_option linter.unusedVariables false
set_option linter.unusedSimpArgs false

theorem placed7 (a : Int) (m : Nat) (h0 : 0 < m) (h1 : m ≤ 4096) : ∃ r : Nat, r < m ∧ wrap64 ((IntKind.u64.wrap a).tmod (m : Int)) = (r : Int) := by
  rw [IntKind.wrap_u64]
  have h2 : 0 ≤ a % 18446744073709551616 := Int.emod_nonneg _ (by omega)
  have e : (a % 18446744073709551616).tmod (m : Int) = a % 18446744073709551616 % (m : Int) := Int.tmod_eq_emod_of_nonneg h2
  rw [e]
  have h3 : 0 ≤ a % 18446744073709551616 % (m : Int) := Int.emod_nonneg _ (by omega)
  have h4 : a % 18446744073709551616 % (m : Int) < (m : Int) := Int.emod_lt_of_pos _ (by omega)
  rw [IntWalk.wrap64_in _ ⟨by omega, by omega⟩]
  exact ⟨(a % 18446744073709551616 % (m : Int)).toNat, by omega, by omega⟩
structure Lay2 (a w : World) (p : Pgl) (P : PSt) (S : St) (A : Option Addr) (n c : Nat) (I : List Int) : Prop where
  pg : Pgr w p P S
  own : OwI w A n c I
  ap : ∀ g, blkOf A = some g → ¬ p.all g
  an : ∀ g, blkOf A = some g → a.heap.size ≤ g
  pn : ∀ j, p.all j → a.heap.size ≤ j
  below : Below a.heap.size a w
section
variable {a w w' : World} {p : Pgl} {P P' : PSt} {S S' : St} {A A' : Option Addr} {n c n' c' : Nat} {I I' : List Int}
theorem Lay2.on (h : Lay2 a w p P S A n c I) (hb : Below w.heap.size w w') : Lay2 a w' p P S A n c I :=
  ⟨h.pg.below hb, h.own.below hb, h.ap, h.an, h.pn, h.below.trans (hb.mono h.below.size)⟩
theorem Lay2.step (h : Lay2 a w p P S A n c I) (k : PLeft w w' p P' S') : ∃ p' : Pgl, p'.r = p.r ∧ p'.d = p.d ∧ Lay2 a w' p' P' S' A n c I := by
  obtain ⟨p1, e1, e2, h1, t1, o1⟩ := k
  refine ⟨p1, e1, e2, h1, h.own.turned t1 h.ap, fun g hg hj => ?_, h.an, fun j hj => ?_, t1.only_new h.below h.below.size h.pn⟩
  · rcases hj with hj | hj
    · rcases o1 g hj with h5 | h5
      · exact h.ap g hg (.inl h5)
      · have := h.own.lt hg; omega
    · exact h.ap g hg (.inr (e2 ▸ hj))
  · rcases hj with hj | hj
    · rcases o1 j hj with h5 | h5
      · exact h.pn j (.inl h5)
      · exact Nat.le_trans h.below.size h5
    · exact h.pn j (.inr (e2 ▸ hj))
theorem Lay2.grow (h : Lay2 a w p P S A n c I) (ho : OwI w' A' n' c' I') (t : Turned w w' (fun j => blkOf A = some j)) (hg : ∀ g, blkOf A' = some g → blkOf A = some g ∨ w.heap.size ≤ g) : Lay2 a w' p P S A' n' c' I' := by
  refine ⟨h.pg.same t (fun j hj hb => h.ap j hb hj) (fun b hc hb => absurd ((h.own.cl hb).uniq hc) (by decide)), ho, fun g e hj => ?_, fun g e => ?_, h.pn, t.only_new h.below h.below.size (fun i hi => h.an i hi)⟩
  · rcases hg g e with k | k
    · exact h.ap g k hj
    · have := h.pg.lt_all hj; omega
  · rcases hg g e with k | k
    · exact h.an g k
    · exact Nat.le_trans h.below.size k
theorem Lay2.start (h : Pgr w p P S) (hb : Below a.heap.size a w) (hn : ∀ j, p.all j → a.heap.size ≤ j) : Lay2 a w p P S none 0 0 [] :=
  ⟨h, OwI.nil_ _, fun g e => (by cases e), fun g e => (by cases e), hn, hb⟩
end
theorem hold_no {s : FSt} {x : Int} (h : s.may x ≠ 0) : s.hold x = s := by unfold FSt.hold; rw [if_neg h]
namespace pagerFills
/-- k pages have been added. -/
structure Fill (z k : Nat) (xs : List UInt8) (B : PSt) (S : St) (el : Mt) (P : PSt) (I : List Int) : Prop where
  ses : Ses S B P el
  cnt : P.L.S.length + k = z - 2 - needN (z - 2)
  H : P.L.H = []
  ch : P.chain.length = needN (z - 2)
  tx : P.M.txn = 1
  n : I.length = k
  nd : I.Nodup
  brs : ∀ x ∈ I, Bears P S (x, xs)
section
variable {z k : Nat} {xs : List UInt8} {B P : PSt} {S : St} {el : Mt} {I : List Int}
theorem Fill.zero (h1 : 8 ≤ z) (h2 : z ≤ 1024) : Fill z 0 xs (baseP z) (formatted z) (meta0 z) (baseP z) [] := by
  refine ⟨base_ses z h1 h2, ?_, rfl, ?_, rfl, rfl, List.nodup_nil, fun x hx => (by cases hx)⟩
  · show ((allIds z).drop (needN (z - 2))).length + 0 = _
    rw [List.length_drop, allIds_length]; omega
  · show ((allIds z).take (needN (z - 2))).length = _
    rw [List.length_take, allIds_length]
    unfold needN; omega
theorem Fill.more (h : Fill z k xs B S el P I) (hl : S.pages.length = z) (ok : P.ok S.pages.length) (hlo : P.L.ok) (l1 : 1 ≤ xs.length) (l2 : xs.length ≤ 237) {y : Int} {r : List Int} (hy : P.L.S = y :: r) (hs : z / 60 + 2 ≤ P.L.S.length) :
    Fill z (k + 1) xs B S el (addP P y (sealed (bodyOf (txnP (pieceP xs) (P.M.txn + 1))))) (I ++ [y]) := by
  have hm : y ∈ P.L.S := by rw [hy]; exact List.mem_cons_self ..
  refine ⟨h.ses.add_ hy (by rw [hl]; exact hs) _, ?_, h.H, h.ch, h.tx, by rw [List.length_append, h.n]; rfl, ?_, fun x hx => ?_⟩
  · have := h.cnt
    show P.L.S.tail.length + (k + 1) = _
    rw [List.length_tail]; omega
  · rw [List.nodup_append]
    refine ⟨h.nd, by simp, fun x hx y' hy' e => ?_⟩
    obtain rfl := List.mem_singleton.1 hy'
    exact (h.brs x hx).away.2.1 (e ▸ hm)
  · rcases List.mem_append.1 hx with hx | hx
    · exact (h.brs x hx).add_ hy _
    · obtain rfl := List.mem_singleton.1 hx
      exact Bears.new ok hlo hy l1 l2 (by rw [h.tx]; decide)
/-- k of the pages have been dropped. -/
structure Fall (k : Nat) (Q : PSt) (S : St) (el : Mt) (P : PSt) (I : List Int) : Prop where
  ses : Ses S Q P el
  s : P.L.S = Q.L.S
  ch : P.chain = Q.chain
  M : P.M = Q.M
  add : P.add = fun _ => none
  n : P.L.H.length = k
  H : ∀ x ∈ P.L.H, x ∈ I.take k
theorem Fall.drop (h : Fall k B S el P I) (ok : P.ok S.pages.length) (hl : P.L.ok) (nd : I.Nodup) (hk : k < I.length) (ha : ∀ x ∈ I, Away B S.pages.length x) :
    (dropP P I[k]).2 = 0 ∧ Fall (k + 1) B S el (dropP P I[k]).1 I ∧ dropP (dropP P I[k]).1 I[k] = ((dropP P I[k]).1, 8) := by
  obtain ⟨x, hx⟩ : ∃ x, I[k] = x := ⟨_, rfl⟩
  have hxm : x ∈ I := by rw [← hx]; exact List.getElem_mem _
  have hnt : x ∉ I.take k := fun hm => by
    have h1 : I.take (k + 1) = I.take k ++ [x] := by rw [← hx]; exact List.take_succ_eq_append_getElem hk
    have h2 : (I.take (k + 1)).Nodup := nd.sublist (List.take_sublist _ _)
    rw [h1, List.nodup_append] at h2
    exact h2.2.2 x hm x (List.mem_singleton.2 rfl) rfl
  have hT : I.take (k + 1) = I.take k ++ [x] := by rw [← hx]; exact List.take_succ_eq_append_getElem hk
  rw [hx]
  obtain ⟨a1, a2, a3, a4⟩ := ha x hxm
  have hb : finB P.M.size x ≠ false := by rw [ok.mz]; simpa [finB] using a1
  have hc : x ∉ P.chain := by rw [h.ch]; exact a4
  have hn : ¬ (P.add x).isSome = true := by rw [h.add]; simp
  have hS : x ∉ P.L.S := by rw [h.s]; exact a2
  have hH : x ∉ P.L.H := fun hm => hnt (h.H x hm)
  have hz : 2 ≤ x ∧ x < P.L.z := by rw [ok.lz]; exact a1
  have hmay : P.L.may x = 0 := by unfold FSt.may; rw [if_pos hz, if_neg (by simp [hS, hH])]
  have e1 : dropP P x = ({ P with L := P.L.hold x }, 0) := by unfold dropP; rw [if_neg hb, if_neg hc, if_neg hn, hmay]
  have e2 : P.L.hold x = { P.L with H := addI x P.L.H } := by unfold FSt.hold; rw [if_pos hmay]
  rw [e1]
  have hses := h.ses.drop_ x
  rw [e1] at hses
  have hxH : x ∈ (P.L.hold x).H := by rw [e2]; exact mem_addI.2 (.inl rfl)
  refine ⟨rfl, ⟨hses, by show (P.L.hold x).S = _; rw [e2]; exact h.s, h.ch, h.M, h.add, ?_, fun y hy => ?_⟩, ?_⟩
  · show (P.L.hold x).H.length = _
    rw [e2]
    show (addI x P.L.H).length = _
    unfold addI
    rw [if_neg hH, ins_length, h.n]
  · have hy : y ∈ (P.L.hold x).H := hy
    rw [e2] at hy
    rw [hT]
    rcases mem_addI.1 hy with e | hy
    · rw [e]; exact List.mem_append_right _ (List.mem_singleton.2 rfl)
    · exact List.mem_append_left _ (h.H y hy)
  · have hmay2 : (P.L.hold x).may x = 8 := by
      unfold FSt.may
      have hzz : (P.L.hold x).z = P.L.z := by rw [e2]
      rw [if_pos (by rw [hzz]; exact hz), if_pos (.inr hxH)]
    have e3 : (P.L.hold x).hold x = P.L.hold x := hold_no (by rw [hmay2]; decide)
    unfold dropP
    rw [if_neg hb, if_neg hc, if_neg hn]
    show ({ P with L := (P.L.hold x).hold x }, (P.L.hold x).may x) = _
    rw [e3, hmay2]
end
end pagerFills
end Go.Proofs.YtdjcahhofonclaaGreatDoor
end

section
/-
  The law PagerFills, walked.
-/
namespace Go.Proofs.YtdjcahhofonclaaGreatDoor.pagerFills
open Go.ChangeShapes Go.WideShapes Go.ChangeAt Go.RowKit
set_option linter.unusedVariables false
set_option linter.unusedSimpArgs false

set_option maxRecDepth 100000 in
set_option maxHeartbeats 4000000 in
theorem walk_out (w : World) (hF : Fours w) (a : Int) (s : ByteArray) (hs : s.size < 1 ∨ 237 < s.size) (hm : s.size ≤ maxLen) :
    Calls Tryz.prog 5 #[.int .i64 a, .string s] w fun e w' => e = .returned (.bool true) ∧ Below w.heap.size w w' := by
  have HF := kept hF
  have HLV := kept (fun (W : World) (hb : Below w.heap.size w W) => lives_any W (hF.below hb))
  obtain ⟨n, hn⟩ : ∃ n, s.size = n := ⟨_, rfl⟩
  have hm2 : n ≤ 9223372036854775807 := by unfold maxLen at hm; omega
  clear hF hm
  rw [hn] at hs
  by_cases h1 : n < 1
  · have hb : decide ((n : Int) < 1) = true := by simp; omega
    go_enter Tryz.func5, Tryz.ntmps5
    go_wp2_with (first | (go_at_call 8; first | ((with_reducible refine (HLV.out w (Below.refl _ _)).mono ?_); rintro e w1 ⟨rfl, hb1⟩; have HB1 := kept hb1; clear hb1) | ((with_reducible refine (HLV.out _ HB1.out).mono ?_); rintro e w2 ⟨rfl, hb2⟩; have HB2 := kept hb2; clear hb2)))
    go_ret
    exact ⟨rfl, HB1.out.trans (HB2.out.mono HB1.out.size)⟩
  · have hb : decide ((n : Int) < 1) = false := by simp; omega
    have hb2 : decide ((237 : Int) < (n : Int)) = true := by simp; omega
    have h237 : 237 < n := by omega
    go_enter Tryz.func5, Tryz.ntmps5
    go_wp2_with (first | (go_at_call 8; first | ((with_reducible refine (HLV.out w (Below.refl _ _)).mono ?_); rintro e w1 ⟨rfl, hb1⟩; have HB1 := kept hb1; clear hb1) | ((with_reducible refine (HLV.out _ HB1.out).mono ?_); rintro e w2 ⟨rfl, hb2⟩; have HB2 := kept hb2; clear hb2)))
    go_ret
    exact ⟨rfl, HB1.out.trans (HB2.out.mono HB1.out.size)⟩
set_option maxRecDepth 100000 in
set_option maxHeartbeats 8000000 in
theorem walked_law (w : World) (hF : Fours w) (a : Int) (s : ByteArray) (hs1 : 1 ≤ s.size) (hs2 : s.size ≤ 237) :
    Calls Tryz.prog 5 #[.int .i64 a, .string s] w fun e w' => e = .returned (.bool true) ∧ Below w.heap.size w w' := by
  have HF := kept hF
  have HLV := kept (lives_any w hF)
  have HTX := kept (fun (W : World) => text_any s W (by omega))
  obtain ⟨xs, hxs⟩ : ∃ xs, s.data.toList = xs := ⟨_, rfl⟩
  rw [hxs] at HTX
  have hxl : xs.length = s.size := by rw [← hxs]; exact Array.length_toList
  obtain ⟨n, hn⟩ : ∃ n, s.size = n := ⟨_, rfl⟩
  rw [hn] at hs1 hs2 hxl
  have hb : decide ((n : Int) < 1) = false := by simp; omega
  have hb2 : decide ((237 : Int) < (n : Int)) = false := by simp; omega
  have HXL : Hid (1 ≤ xs.length ∧ xs.length ≤ 237) := kept ⟨by omega, by omega⟩
  obtain ⟨r, hr, hat0⟩ := placed7 a 300 (by omega) (by omega)
  have hat : wrap64 ((IntKind.u64.wrap a).tmod 300) = (r : Int) := hat0
  obtain ⟨z, hz⟩ : ∃ z, 8 + r = z := ⟨_, rfl⟩
  have hatz : wrap64 (8 + (r : Int)) = (z : Int) := by rw [IntWalk.wrap64_in _ ⟨by omega, by omega⟩]; omega
  have hz8 : 8 ≤ z ∧ z ≤ 308 := by omega
  have HMD := kept (fun (W : World) (hb : Below w.heap.size w W) => made_any z W (by omega) (by omega) (hF.below hb))
  clear hF hat0 hxs hxl hs1 hs2 hz hr
  go_enter Tryz.func5, Tryz.ntmps5
  go_wp2_with (first | (go_at_call 8; (with_reducible refine (HLV.out).mono ?_); rintro e w1 ⟨rfl, hb1⟩; have HB1 := kept hb1 ; clear hb1) | (go_at_call 9; (with_reducible refine ((HMD.out _ HB1.out)).mono ?_); rintro e w2 ⟨p0, rfl, h2⟩))
  have HBH := kept h2.out.2.1
  have HZ := kept hz8
  obtain ⟨f1, f2, f3, f4, f5⟩ := formatted_spec z hz8.1 (by omega)
  have HFU := kept f2
  have HLN := kept f3
  have HDN := kept f4
  have HFW : Hid (∀ W : World, Below w.heap.size w W → Fours W) := kept (fun W hb => HF.out.below hb)
  have HL0 : Hid (Lay2 w w2 p0 (baseP z) (formatted z) none 0 0 []) := kept (Lay2.start h2.out.1 (HB1.out.trans (h2.out.2.1.mono HB1.out.size)) (fun j hj => Nat.le_trans HB1.out.size (h2.out.2.2 j hj)))
  have HF0 := kept (Fill.zero (xs := xs) hz8.1 (by omega : z ≤ 1024))
  clear h2 f1 f2 f3 f4 f5 HLV HMD HB1 hat hatz HBH HF
  generalize baseP z = B0 at HF0 HL0
  generalize formatted z = S0 at HF0 HL0 HFU HLN HDN
  generalize meta0 z = el0 at HF0
  generalize (IntKind.u64.wrap a).tmod 300 = r1
  generalize IntKind.u64.wrap a = r2
  obtain ⟨q0, hq0⟩ : ∃ q, p0.r = q := ⟨_, rfl⟩
  obtain ⟨dq, hdq⟩ : ∃ q, p0.d.r = q := ⟨_, rfl⟩
  have HQ0 := kept hq0
  rw [hq0, hdq]
  clear hq0 hdq
  go_loopw [7, 40] (fun ids i wr => ∃ (k c : Nat) (A : Option Addr) (I : List Int) (P : PSt) (p : Pgl), i = .int .i64 (k : Int) ∧ ids = .slice A k c ∧ p.r = q0 ∧ Hid (Lay2 w wr p P S0 A k c I) ∧ Hid (Fill z k xs B0 S0 el0 P I)) (fun _ i _ => z - (intOf i).toNat)
  case atStart => exact ⟨0, 0, none, [], B0, p0, rfl, rfl, HQ0.out, HL0, HF0⟩
  case round =>
    obtain ⟨k, c, A, I, P, p, rfl, rfl, hp, HL, HFI⟩ := hrel
    clear HL0 HF0
    have hkz : k + 1 < z := by
      have := HFI.out.cnt
      have := HZ.out
      omega
    have HTXW := kept (HTX.out wr)
    by_cases hroom : z / 60 + 2 ≤ P.L.S.length
    · obtain ⟨y, rr, hy⟩ : ∃ y rr, P.L.S = y :: rr := by
        cases h : P.L.S with
        | nil => rw [h] at hroom; simp at hroom
        | cons y rr => exact ⟨y, rr, rfl⟩
      have HAD := kept (fun (l : Lay) (W : World) (hb : Below wr.heap.size wr W) (hr : RdPg W l (pieceP xs)) => add_ok (HL.out.on hb).pg l _ hr (HFW.out W (HL.out.on hb).below) (by rw [HFI.out.tx]; decide) (piece_right HXL.out.1 HXL.out.2 _) (by rw [HLN.out]; exact hroom) y rr hy)
      have HFN : Hid (Fill z (k + 1) xs B0 S0 el0 (addP P y (sealed (bodyOf (txnP (pieceP xs) (P.M.txn + 1))))) (I ++ [y])) := kept (HFI.out.more HLN.out HL.out.pg.ok HL.out.pg.lst.1 HXL.out.1 HXL.out.2 hy hroom)
      rw [hp] at HAD
      generalize addP P y (sealed (bodyOf (txnP (pieceP xs) (P.M.txn + 1)))) = PN at HAD HFN
      have hkb : k + 1 ≤ 1000000 := by have := HZ.out; omega
      clear hroom hy
      go_wp2_with (first | (go_at_call 25; (with_reducible refine (HTXW.out).mono ?_); rintro e w3 ⟨l3, rfl, h3, hb3⟩; have HAD3 := kept (HAD.out l3 w3 hb3 h3.out); have HL3 := kept (HL.out.on hb3); clear h3 hb3) | (go_at_call 24; (with_reducible refine (HAD3.out).mono ?_); rintro e w4 ⟨rfl, h4⟩; obtain ⟨p4, e4, _, k4⟩ := HL3.out.step h4.out; have HL4 := kept (k4.on ((Below.refl _ w4).alloc (Nat.le_refl _) (.cells #[.int .i64 y] 3))); clear h4 k4) | (at_builtin; refine wpList_append_i rfl _ _ rfl rfl rfl HL4.out.own (RdI.oneI w4 y) hkb ?_; intro A5 c5 w5 h5 t5 g5; have HL5 := kept (HL4.out.grow h5 t5 g5); clear h5 t5 g5))
      go_roundw
      case rel => exact ⟨k + 1, c5, A5, _, PN, p4, by go_num, rfl, e4.trans hp, HL5, HFN⟩
      case measure => simp [intOf]; omega
    · have HAD := kept (fun (l : Lay) (W : World) (hb : Below wr.heap.size wr W) (hr : RdPg W l (pieceP xs)) => add_full (HL.out.on hb).pg l _ hr (HFW.out W (HL.out.on hb).below) (by rw [HFI.out.tx]; decide) (piece_right HXL.out.1 HXL.out.2 _) (by rw [HLN.out]; omega))
      rw [hp] at HAD
      have hrm := HFI.out.ses.room
      rw [HLN.out] at hrm
      have hcn := HFI.out.cnt
      have hnn : k = z - 2 - needN (z - 2) - (z / 60 + 1) := by omega
      have hk4 : 4 ≤ k := by rw [hnn]; unfold needN; omega
      have HRM : Hid (P.L.S.length = z / 60 + 1) := kept (by omega)
      have hd1 : decide ((z : Int) ≤ (k : Int)) = false := by simp; omega
      have hd2 : ¬ ((k : Int) < (z : Int) - 2 - 3 * ((z : Int) / 60 + 2)) := by unfold needN at hnn; omega
      have HKN : Hid (k = z - 2 - needN (z - 2) - (z / 60 + 1)) := kept hnn
      clear hrm hcn hnn
      go_wp2_with (first | (go_at_call 25; (with_reducible refine (HTXW.out).mono ?_); rintro e w3 ⟨l3, rfl, h3, hb3⟩; have HAD3 := kept (HAD.out l3 w3 hb3 h3.out); have HL3 := kept (HL.out.on hb3); clear h3 hb3) | (go_at_call 24; (with_reducible refine (HAD3.out).mono ?_); rintro e w4 ⟨rfl, h4⟩; obtain ⟨p4, e4, _, k4⟩ := HL3.out.step h4.out; have HL4 := kept k4; clear h4 k4; have HCM := kept (commit_ses HL4.out.pg HFI.out.ses HFU.out (by rw [HFI.out.tx]; decide) (by have := HDN.out; omega) (HFW.out _ HL4.out.below)); rw [e4, hp] at HCM) | (go_at_call 13; (with_reducible refine (HCM.out).mono ?_); rintro e w5 ⟨rfl, h5⟩))
      have h4b := HL4.out.pg
      have ht1 : P.M.txn + 1 < 18446744073709551616 := by rw [HFI.out.tx]; decide
      obtain ⟨c1, c2, c3, c4, c5, c6⟩ := HFI.out.ses.commit h4b.ok h4b.lst.1 ht1 HFU.out
      have htot : (nextP P).L.S.length + (nextP P).chain.length + k = z - 2 := by
        have h1 := settle_len h4b.ok h4b.lst.1 (HFI.out.ses.roomOk h4b.ok h4b.lst.1)
        have h2 := HFI.out.cnt
        have h3 := HFI.out.ch
        rw [HFI.out.H] at h1
        have h1 : (nextP P).L.S.length + (nextP P).chain.length = P.L.S.length + 0 + P.chain.length := h1
        have h4 : needN (z - 2) ≤ z - 2 := by unfold needN; omega
        omega
      have htx : (nextP P).M.txn = 2 := by show P.M.txn + 1 = 2; rw [HFI.out.tx]
      obtain ⟨p5, e5, _, k5⟩ := HL4.out.step h5.out
      have HAW : Hid (∀ x ∈ I, Away (nextP P) (commitR P S0).1.pages.length x) := kept (fun x hx => ((HFI.out.brs x hx).commit h4b.ok (by rw [HLN.out]; have := HZ.out; omega) c4 c5).away)
      have HND := kept HFI.out.nd
      have HIN := kept HFI.out.n
      have HP5 : Hid (p5.r = q0) := kept (by rw [e5, e4, hp])
      have HL5 := kept k5
      have HFA : Hid (Fall 0 (nextP P) (commitR P S0).1 B0.M (nextP P) I) := kept ⟨c3, rfl, rfl, rfl, rfl, by show (settleL P).H.length = 0; rw [settleL_is (fun x hx => by rw [h4b.ok.lz]; exact h4b.ok.cb x hx)]; rfl, fun x hx => by
        have hx : x ∈ (settleL P).H := hx
        rw [settleL_is (fun x hx => by rw [h4b.ok.lz]; exact h4b.ok.cb x hx)] at hx
        cases hx⟩
      have HFU1 := kept c2
      have HLN1 : Hid ((commitR P S0).1.pages.length = z) := kept (c5.trans HLN.out)
      have HDN1 : Hid ((commitR P S0).1.done ≤ 4100) := kept (by have := HDN.out; omega)
      have HTOT := kept htot
      have HTX2 := kept htx
      clear HFI HL HL3 HL4 HAD HAD3 HCM HTXW h5 c1 c2 c3 c4 c5 c6 h4b ht1 htot htx k5 e5 e4 hp hroom hd1 hd2 HRM HFU HDN HLN HQ0
      generalize (commitR P S0).1 = S1 at HAW HL5 HFA HFU1 HLN1 HDN1
      generalize nextP P = Q at HAW HL5 HFA HTOT HTX2
      generalize B0.M = el1 at HFA
      generalize decide (z ≤ k) = dz1
      generalize decide ((k : Int) < (z : Int) - 2 - 3 * ((z : Int) / 60 + 2)) = dz2
      go_loopw [85] (fun i wx => ∃ (j : Nat) (P2 : PSt) (p2 : Pgl), j ≤ k ∧ i = .int .i64 (j : Int) ∧ p2.r = q0 ∧ Hid (Lay2 w wx p2 P2 S1 A k c I) ∧ Hid (Fall j Q S1 el1 P2 I)) (fun i _ => k - (intOf i).toNat)
      case atStart => exact ⟨0, Q, p5, Nat.zero_le _, rfl, HP5.out, HL5, HFA⟩
      case round =>
        obtain ⟨j, P2, p2, hj, rfl, hp2, HLB, HFB⟩ := hrel
        clear HL5 HFA
        by_cases hlt : j < k
        · have hji : j < I.length := by rw [HIN.out]; exact hlt
          obtain ⟨g, hA⟩ := HLB.out.own.head (by omega)
          subst hA
          obtain ⟨b, o, e, hcell⟩ := HLB.out.own.reads.2 (by omega)
          cases e
          have hx := hcell j hji
          rw [Nat.zero_add] at hx
          obtain ⟨hd, HFN, hd8⟩ := HFB.out.drop HLB.out.pg.ok HLB.out.pg.lst.1 HND.out hji HAW.out
          have HD1 := kept (drop_any HLB.out.pg I[j])
          rw [hd, hp2] at HD1
          have HFN := kept HFN
          have HD2 := kept (fun (W : World) (p3 : Pgl) (hl : Lay2 w W p3 (dropP P2 I[j]).1 S1 (some ⟨g, 0, none⟩) k c I) => drop_any hl.pg I[j])
          rw [hd8] at HD2
          generalize (dropP P2 I[j]).1 = P3 at HD1 HFN HD2
          generalize I[j] = x at hx HD1 HD2
          clear hcell hd hd8
          go_wp2_with (first | (go_at_call 15; first | ((with_reducible refine HD1.out.mono ?_); rintro e w3 ⟨rfl, h3⟩; obtain ⟨p3, e3, _, k3⟩ := HLB.out.step h3.out; have HL3 := kept k3; have HD4 := kept (HD2.out _ _ HL3.out); rw [e3, hp2] at HD4; clear h3 k3) | ((with_reducible refine HD4.out.mono ?_); rintro e w4 ⟨rfl, h4⟩; obtain ⟨p4, e4, _, k4⟩ := HL3.out.step h4.out; have HL4 := kept k4; clear h4 k4)))
          go_roundw
          case rel => exact ⟨j + 1, P3, p4, by omega, by go_num, by rw [e4, e3, hp2], HL4, HFN⟩
          case measure => simp [intOf]; omega
        · obtain rfl : j = k := by omega
          have hpg := HLB.out.pg
          have ht1 : P2.M.txn + 1 < 18446744073709551616 := by rw [HFB.out.M, HTX2.out]; decide
          obtain ⟨c1, c2, c3, c4, c5, c6⟩ := HFB.out.ses.commit hpg.ok hpg.lst.1 ht1 HFU1.out
          have hcn : (nextP P2).L.S.length + needN (z - 2) = z - 2 := by
            have hk := HFB.out.ses.roomOk hpg.ok hpg.lst.1
            have h1 := settle_len hpg.ok hpg.lst.1 hk
            have h2 := settleC_len hk
            have h3 := HTOT.out
            have e : P2.L.S.length + P2.L.H.length + P2.chain.length = z - 2 := by rw [HFB.out.s, HFB.out.ch, HFB.out.n]; omega
            rw [e] at h1 h2
            rw [h2] at h1
            exact h1
          have HCM := kept (commit_ses hpg HFB.out.ses HFU1.out ht1 (by have := HDN1.out; omega) (HFW.out _ HLB.out.below))
          rw [hp2] at HCM
          have HSE : Hid (Ses (commitR P2 S1).1 (nextP P2) (nextP P2) Q.M) := kept c3
          have HFU2 := kept c2
          have HLN2 : Hid ((commitR P2 S1).1.pages.length = z) := kept (c5.trans HLN1.out)
          have HDN2 : Hid ((commitR P2 S1).1.done ≤ 6200) := kept (by have := HDN1.out; omega)
          have HCN := kept hcn
          have HTX3 : Hid ((nextP P2).M.txn = 3) := kept (by show P2.M.txn + 1 = 3; rw [HFB.out.M, HTX2.out])
          have hj4 : 4 ≤ j ∧ j + (z / 60 + 1) + needN (z - 2) = z - 2 := ⟨hk4, by have := HKN.out; omega⟩
          have HJ := kept hj4
          clear hj4 hpg ht1 c1 c2 c3 c4 c5 c6 hcn HAW HND HIN HFU1 HLN1 HDN1 HTOT HTX2 hj hlt hk4
          generalize hQ2 : nextP P2 = Q2 at HSE HCN HTX3
          have HQ2 := kept hQ2
          clear hQ2
          go_wp2_with (first | (go_at_call 13; (with_reducible refine (HCM.out).mono ?_); rintro e w6 ⟨rfl, h6⟩))
          obtain ⟨p6, e6, _, k6⟩ := HLB.out.step h6.out
          rw [HQ2.out] at k6
          have HL6 := kept k6
          have HP6 : Hid (p6.r = q0) := kept (e6.trans hp2)
          clear h6 k6 e6 HCM HLB HFB hp2 HQ2
          generalize (commitR P2 S1).1 = S2 at HSE HFU2 HLN2 HDN2 HL6
          generalize Q.M = el2 at HSE
          go_loopw [106] (fun i wy => ∃ (m : Nat) (P3 : PSt) (p3 : Pgl), m + 2 ≤ j ∧ i = .int .i64 (m : Int) ∧ p3.r = q0 ∧ Hid (Lay2 w wy p3 P3 S2 A j c I) ∧ Hid (Ses S2 Q2 P3 el2) ∧ Hid (P3.L.S.length + m = Q2.L.S.length ∧ P3.M.txn = 3)) (fun i _ => j - (intOf i).toNat)
          case atStart => exact ⟨0, Q2, p6, by have := HJ.out; omega, rfl, HP6.out, HL6, HSE, kept ⟨rfl, HTX3.out⟩⟩
          case round =>
            obtain ⟨m, P3, p3, hm, rfl, hp3, HLC, HSC, HNC⟩ := hrel
            clear HL6 HSE HP6
            by_cases hlt : m + 2 < j
            · have hroom : z / 60 + 2 ≤ P3.L.S.length := by
                have h1 := HNC.out.1
                have h2 := HCN.out
                have h3 := HJ.out
                omega
              obtain ⟨y, rr, hy⟩ : ∃ y rr, P3.L.S = y :: rr := by
                cases h : P3.L.S with
                | nil => rw [h] at hroom; simp at hroom
                | cons y rr => exact ⟨y, rr, rfl⟩
              have HAD := kept (fun (l : Lay) (W : World) (hb : Below wr.heap.size wr W) (hr : RdPg W l (pieceP xs)) => add_ok (HLC.out.on hb).pg l _ hr (HFW.out W (HLC.out.on hb).below) (by rw [HNC.out.2]; decide) (piece_right HXL.out.1 HXL.out.2 _) (by rw [HLN2.out]; exact hroom) y rr hy)
              have HSN : Hid (Ses S2 Q2 (addP P3 y (sealed (bodyOf (txnP (pieceP xs) (P3.M.txn + 1))))) el2) := kept (HSC.out.add_ hy (by rw [HLN2.out]; exact hroom) _)
              have HNN : Hid ((addP P3 y (sealed (bodyOf (txnP (pieceP xs) (P3.M.txn + 1))))).L.S.length + (m + 1) = Q2.L.S.length ∧ (addP P3 y (sealed (bodyOf (txnP (pieceP xs) (P3.M.txn + 1))))).M.txn = 3) := kept ⟨by show P3.L.S.tail.length + (m + 1) = _; rw [List.length_tail]; have := HNC.out.1; omega, HNC.out.2⟩
              rw [hp3] at HAD
              generalize addP P3 y (sealed (bodyOf (txnP (pieceP xs) (P3.M.txn + 1)))) = PN at HAD HSN HNN
              have HTXW := kept (HTX.out wr)
              have hmj : (m : Int) < (j : Int) - 2 := by omega
              clear hroom hy
              go_wp2_with (first | (go_at_call 25; (with_reducible refine (HTXW.out).mono ?_); rintro e w7 ⟨l7, rfl, h7, hb7⟩; have HAD7 := kept (HAD.out l7 w7 hb7 h7.out); have HL7 := kept (HLC.out.on hb7); clear h7 hb7) | (go_at_call 24; (with_reducible refine (HAD7.out).mono ?_); rintro e w8 ⟨rfl, h8⟩; obtain ⟨p8, e8, _, k8⟩ := HL7.out.step h8.out; have HL8 := kept k8; clear h8 k8))
              go_roundw
              case rel => exact ⟨m + 1, PN, p8, by omega, by go_num, by rw [e8, hp3], HL8, HSN, HNN⟩
              case measure => simp [intOf]; omega
            · have hmj : ¬ ((m : Int) < (j : Int) - 2) := by omega
              have HCM := kept (commit_ses HLC.out.pg HSC.out HFU2.out (by rw [HNC.out.2]; decide) (by have := HDN2.out; omega) (HFW.out _ HLC.out.below))
              rw [hp3] at HCM
              go_wp2_with (first | (go_at_call 13; (with_reducible refine (HCM.out).mono ?_); rintro e w9 ⟨rfl, h9⟩))
              go_ret
              obtain ⟨p9, e9, _, k9⟩ := HLC.out.step h9.out
              exact ⟨rfl, k9.below⟩
theorem walk (w : World) (hF : Fours w) (a : Int) (ha : (Lit.int .i64 a).wf = true) (s : ByteArray) (hs : s.size ≤ maxLen) :
    Calls Tryz.prog 5 #[.int .i64 a, .string s] w fun e w' => e = .returned (.bool true) ∧ Below w.heap.size w w' := by
  by_cases h : 1 ≤ s.size ∧ s.size ≤ 237
  · exact walked_law w hF a s h.1 h.2
  · exact walk_out w hF a s (by omega) hs
end Go.Proofs.YtdjcahhofonclaaGreatDoor.pagerFills
end
