/-
  Texts laid together: Qw Qx Qy Ya Yb Yc Qz PagerAgainWalk.
-/
import Derived.Test.YtdjcahhofonclaaGreatDoorBQu
import Derived.Test.YtdjcahhofonclaaGreatDoorBQo
import Derived.Test.YtdjcahhofonclaaGreatDoorBQh
import Derived.Lib.ConvBytes
import Derived.Test.YtdjcahhofonclaaGreatDoorBRows3
import Derived.Test.YtdjcahhofonclaaGreatDoorBFk
import Derived.Test.YtdjcahhofonclaaGreatDoorBFm
section
/-
  The law's own small functions: Text, Made.
-/
namespace Go.Proofs.YtdjcahhofonclaaGreatDoor
open Go.ChangeShapes Go.WideShapes Go.ChangeAt Go.RowKit
set_option linter.unusedVariables false
set_option linter.unusedSimpArgs false

/-- A page of bytes. -/
def pieceP (xs : List UInt8) : Pg := ⟨3, 0, 0, [], [], xs, []⟩
theorem piece_right {xs : List UInt8} (h1 : 1 ≤ xs.length) (h2 : xs.length ≤ 237) (t : Nat) : rightB (txnP (pieceP xs) t) = true := by
  have e1 : (0 < xs.length) = True := by simp; omega
  simp [rightB, ownB, nextB, thingsB, usedN, txnP, pieceP, ordU, h2]
  exact h1
theorem bytesWorld_below_ (w : World) (e : TypeId) (s : ByteArray) : Below w.heap.size w (Lib.bytesWorld w e s) :=
  ⟨rfl, rfl, rfl, by rw [Lib.bytesWorld_size]; omega, fun j hj => Lib.bytesWorld_at_old w e s j hj⟩
theorem bytesWorld_rd (w : World) (e : TypeId) (s : ByteArray) : Rd (Lib.bytesWorld w e s) (some ⟨w.heap.size, 0, none⟩) s.size s.data.toList := by
  refine ⟨by simp, fun _ => ⟨_, rfl, fun j h => ?_⟩⟩
  have h0 : j < s.size := by have h := h; rw [Array.length_toList] at h; exact h
  have h1 := Lib.bytesWorld_cell w e s j h0
  rw [add_at, Nat.zero_add, h1]
  have h2 : s.data.toList.getD j 0 = s.data.toList[j] := by rw [List.getD_eq_getElem?_getD, List.getElem?_eq_getElem h]; rfl
  rw [h2]
  rfl
set_option maxRecDepth 100000 in
theorem text_any (s : ByteArray) (w : World) (hs : s.size ≤ 100000) :
    Calls Tryz.prog 25 #[.string s] w fun e w' => ∃ l : Lay, e = .returned l.val ∧ Hid (RdPg w' l (pieceP s.data.toList)) ∧ Below w.heap.size w w' := by
  have HS := kept hs
  have HCV : Hid (∀ W : World, (convert 9 62 (.string s)).run Tryz.prog W = .ok (.slice (some ⟨W.heap.size, 0, none⟩) s.size (grownCap W s.size 0 5)) (Lib.bytesWorld W 5 s)) := kept (fun W => Lib.run_convert_string_bytes W _ _ _ s rfl rfl rfl)
  clear hs
  go_enter Tryz.func25, Tryz.ntmps25
  have hcv := HCV.out (w.alloc (.cells #[.int .i64 0, .int .u64 0, .int .i64 0, .slice none 0 0, .slice none 0 0, .slice none 0 0, .slice none 0 0] 64))
  have hb0 := (Below.refl w.heap.size w).alloc (Nat.le_refl _) (.cells #[.int .i64 0, .int .u64 0, .int .i64 0, .slice none 0 0, .slice none 0 0, .slice none 0 0, .slice none 0 0] 64)
  have hb1 := bytesWorld_below_ (w.alloc (.cells #[.int .i64 0, .int .u64 0, .int .i64 0, .slice none 0 0, .slice none 0 0, .slice none 0 0, .slice none 0 0] 64)) 5 s
  have hk1 := (Blk.new w 64 #[.int .i64 0, .int .u64 0, .int .i64 0, .slice none 0 0, .slice none 0 0, .slice none 0 0, .slice none 0 0]).below hb1 (by simp)
  have hr1 := bytesWorld_rd (w.alloc (.cells #[.int .i64 0, .int .u64 0, .int .i64 0, .slice none 0 0, .slice none 0 0, .slice none 0 0, .slice none 0 0] 64)) 5 s
  have hsz0 : (w.alloc (.cells #[.int .i64 0, .int .u64 0, .int .i64 0, .slice none 0 0, .slice none 0 0, .slice none 0 0, .slice none 0 0] 64)).heap.size = w.heap.size + 1 := by simp
  rw [hsz0] at hcv hr1
  have hbb := hb0.trans (hb1.mono (by rw [hsz0]; omega))
  generalize grownCap (w.alloc (.cells #[.int .i64 0, .int .u64 0, .int .i64 0, .slice none 0 0, .slice none 0 0, .slice none 0 0, .slice none 0 0] 64)) s.size 0 5 = cc at hcv
  generalize Lib.bytesWorld (w.alloc (.cells #[.int .i64 0, .int .u64 0, .int .i64 0, .slice none 0 0, .slice none 0 0, .slice none 0 0, .slice none 0 0] 64)) 5 s = W1 at hcv hk1 hr1 hb1 hbb
  have HR1 := kept hr1
  have HBB := kept hbb
  have HK1 := kept hk1
  have p0 : W1.cell? ⟨w.heap.size, 0, none⟩ = some (.int .i64 0) := hk1.cell 0
  have t0 := hk1.frozen 0
  have p1 : W1.cell? ⟨w.heap.size, 1, none⟩ = some (.int .u64 0) := hk1.cell 1
  have t1 := hk1.frozen 1
  have p2 : W1.cell? ⟨w.heap.size, 2, none⟩ = some (.int .i64 0) := hk1.cell 2
  have t2 := hk1.frozen 2
  have p3 : W1.cell? ⟨w.heap.size, 3, none⟩ = some (.slice none 0 0) := hk1.cell 3
  have t3 := hk1.frozen 3
  have p4 : W1.cell? ⟨w.heap.size, 4, none⟩ = some (.slice none 0 0) := hk1.cell 4
  have t4 := hk1.frozen 4
  have p5 : W1.cell? ⟨w.heap.size, 5, none⟩ = some (.slice none 0 0) := hk1.cell 5
  have t5 := hk1.frozen 5
  have p6 : W1.cell? ⟨w.heap.size, 6, none⟩ = some (.slice none 0 0) := hk1.cell 6
  have t6 := hk1.frozen 6
  clear hb0 hb1 hk1 hr1 hsz0 hbb
  go_wp2
  have hb7 := ((((((HK1.out.set_ 0 (.int .i64 3)).set_ 1 (.int .u64 0)).set_ 2 (.int .i64 0)).set_ 3 (.slice none 0 0)).set_ 4 (.slice none 0 0)).set_ 5 (.slice (some ⟨w.heap.size + 1, 0, none⟩) s.size cc)).set_ 6 (.slice none 0 0)
  simp only [List.set_cons_zero, List.set_cons_succ] at hb7
  have ho7 := only7 W1 w.heap.size (.int .i64 3) (.int .u64 0) (.int .i64 0) (.slice none 0 0) (.slice none 0 0) (.slice (some ⟨w.heap.size + 1, 0, none⟩) s.size cc) (.slice none 0 0)
  unfold set7 at ho7
  generalize (((((((W1.setCell ⟨w.heap.size, 0, none⟩ (.int .i64 3)).setCell ⟨w.heap.size, 1, none⟩ (.int .u64 0)).setCell ⟨w.heap.size, 2, none⟩ (.int .i64 0)).setCell ⟨w.heap.size, 3, none⟩ (.slice none 0 0)).setCell ⟨w.heap.size, 4, none⟩ (.slice none 0 0)).setCell ⟨w.heap.size, 5, none⟩ (.slice (some ⟨w.heap.size + 1, 0, none⟩) s.size cc)).setCell ⟨w.heap.size, 6, none⟩ (.slice none 0 0)) = X at hb7 ho7 ⊢
  have x0 : X.cell? ⟨w.heap.size, 0, none⟩ = some (.int .i64 3) := hb7.cell 0
  have x1 : X.cell? ⟨w.heap.size, 1, none⟩ = some (.int .u64 0) := hb7.cell 1
  have x2 : X.cell? ⟨w.heap.size, 2, none⟩ = some (.int .i64 0) := hb7.cell 2
  have x3 : X.cell? ⟨w.heap.size, 3, none⟩ = some (.slice none 0 0) := hb7.cell 3
  have x4 : X.cell? ⟨w.heap.size, 4, none⟩ = some (.slice none 0 0) := hb7.cell 4
  have x5 : X.cell? ⟨w.heap.size, 5, none⟩ = some (.slice (some ⟨w.heap.size + 1, 0, none⟩) s.size cc) := hb7.cell 5
  have x6 : X.cell? ⟨w.heap.size, 6, none⟩ = some (.slice none 0 0) := hb7.cell 6
  have hrX : Rd X (some ⟨w.heap.size + 1, 0, none⟩) s.size s.data.toList := HR1.out.only (fun a e h0 => by cases e; show w.heap.size + 1 ≠ w.heap.size; omega) ho7
  exact bodyPost_ret (v := .agg #[.int .i64 3, .int .u64 0, .int .i64 0, .slice none 0 0, .slice none 0 0, .slice (some ⟨w.heap.size + 1, 0, none⟩) s.size cc, .slice none 0 0]) (by simp [results, Tryz.results25, go_sem, x0, x1, x2, x3, x4, x5, x6]) rfl ⟨⟨3, 0, 0, none, 0, 0, none, 0, 0, some ⟨w.heap.size + 1, 0, none⟩, s.size, cc, none, 0, 0⟩, rfl, kept ⟨rfl, rfl, rfl, RdItems.nil_ _ _, RdKids.nil_ _ _, hrX, RdNums.nil_ _ _, Int.le_refl 0, (by show (0 : Int) < _; omega), Nat.zero_le _, Nat.zero_le _, by show s.size ≤ _; have := HS.out; omega, Nat.zero_le _⟩, ho7.below HBB.out HBB.out.size (Nat.le_refl _)⟩
set_option maxRecDepth 100000 in
theorem made_any (z : Nat) (w : World) (h1 : 8 ≤ z) (h2 : z ≤ 1024) (hF : Fours w) :
    Calls Tryz.prog 9 #[.int .i64 (z : Int)] w fun e w' => ∃ p : Pgl, e = .returned (.tuple #[.pointer (some ⟨p.d.r, 0, none⟩), .pointer (some ⟨p.r, 0, none⟩)]) ∧ Hid (Pgr w' p (baseP z) (formatted z) ∧ Below w.heap.size w w' ∧ ∀ j, p.all j → w.heap.size ≤ j) := by
  have HN := kept (new_any z w h1 h2)
  have HF := kept hF
  obtain ⟨f1, f2, f3, f4, f5⟩ := formatted_spec z h1 h2
  have HO := f5.opens
  have HFM := kept (fun (d : Dk) (W : World) (hd : Dsk W d (fresh z)) (hb : Below w.heap.size w W) => format_any d (fresh z) W hd (by show (0 : Nat) ≤ _; omega) (hF.below hb))
  rw [fresh_len, f1] at HFM
  have HOP := kept (fun (d : Dk) (W : World) (hd : Dsk W d (formatted z)) (hb : Below w.heap.size w W) => open_ok d (formatted z) W hd (by rw [f2]; decide) (hF.below hb) HO.1)
  rw [HO.2] at HOP
  clear h1 h2 hF f1 f2 f3 f4 f5 HO
  go_enter Tryz.func9, Tryz.ntmps9
  go_wp2_with fail
  with_reducible refine HN.out.mono ?_
  rintro e w1 ⟨d, rfl, hd, hn, hb1⟩
  have HD := kept hd
  have HDN := kept hn
  have HB1 := kept hb1
  have HF1 := kept (HFM.out d w1 hd hb1)
  clear hd hn hb1
  go_wp2_with fail
  with_reducible refine HF1.out.mono ?_
  rintro e w2 ⟨rfl, h2⟩
  have HB2 : Hid (Below w.heap.size w w2) := kept (h2.out.2.only_new HB1.out HB1.out.size HDN.out)
  have HO2 := kept (HOP.out d w2 h2.out.1 HB2.out)
  go_wp2_with fail
  with_reducible refine HO2.out.mono ?_
  rintro e w3 ⟨p, rfl, h3⟩
  go_wp2
  go_ret2
  refine ⟨p, by rw [h3.out.1]; rfl, kept ⟨h3.out.2.1, HB2.out.trans (h3.out.2.2.1.mono HB2.out.size), fun j hj => ?_⟩⟩
  rcases hj with hj | hj
  · exact Nat.le_trans HB2.out.size (h3.out.2.2.2 j hj)
  · rw [h3.out.1] at hj
    exact HDN.out j hj
end Go.Proofs.YtdjcahhofonclaaGreatDoor
end

section
/-
  A session with a pager: the base that lies on the disk, and the transaction over it; the pages that it bears. No call is walked here.
-/
namespace Go.Proofs.YtdjcahhofonclaaGreatDoor
open Go.ChangeShapes Go.WideShapes Go.ChangeAt Go.RowKit
set_option linter.unusedVariables false
set_option linter.unusedSimpArgs false

structure Ses (S : St) (B P : PSt) (el : Mt) : Prop where
  hd : OnDisk S B el
  tr : InTr B P
  room : S.pages.length / 60 + 1 ≤ P.L.S.length
  c1 : 1 ≤ P.chain.length
  rt : P.root = 0 ∨ (2 ≤ P.root ∧ P.root < (S.pages.length : Int))
theorem nodup_len {C : List Int} {z : Nat} (hn : C.Nodup) (hb : ∀ x ∈ C, 2 ≤ x ∧ x < (z : Int)) : C.length ≤ z - 2 := by
  have hp : (C.mergeSort (fun x y => decide (x ≤ y))).Perm C := List.mergeSort_perm _ _
  rw [← hp.length_eq]
  have hr : Rising (C.mergeSort (fun x y => decide (x ≤ y))) := sorted_rising hn
  rcases hr.length_le (a := 2) (b := z) (fun x hx => (hb x (hp.mem_iff.1 hx)).1) (fun x hx => (hb x (hp.mem_iff.1 hx)).2) with h | h
  · rw [h]; exact Nat.zero_le _
  · omega
section
variable {B P : PSt} {S : St} {el : Mt} {z : Nat}
theorem total_le (h : P.ok z) (hl : P.L.ok) : P.L.S.length + P.L.H.length + P.chain.length ≤ z - 2 := by
  have hS : P.L.S.Nodup := hl.2.2.1.imp fun h => by omega
  have hH : P.L.H.Nodup := hl.2.2.2.1.imp fun h => by omega
  have hn : (P.L.S ++ P.L.H ++ P.chain).Nodup := by
    rw [List.nodup_append, List.nodup_append]
    refine ⟨⟨hS, hH, fun x hx y hy e => h.sh x hx (e ▸ hy)⟩, h.cn, fun x hx y hy e => ?_⟩
    subst e
    rcases List.mem_append.1 hx with hx | hx
    · exact (h.cs x hy).1 hx
    · exact (h.cs x hy).2 hx
  have hb : ∀ x ∈ P.L.S ++ P.L.H ++ P.chain, 2 ≤ x ∧ x < (z : Int) := fun x hx => by
    rw [← h.lz]
    rcases List.mem_append.1 hx with hx | hx
    · rcases List.mem_append.1 hx with hx | hx
      · exact hl.2.2.2.2.1 x hx
      · exact hl.2.2.2.2.2 x hx
    · rw [h.lz]; exact h.cb x hx
  have := nodup_len hn hb
  rwa [List.length_append, List.length_append] at this
theorem Ses.roomOk (h : Ses S B P el) (ok : P.ok S.pages.length) (hl : P.L.ok) : RoomOk P := by
  have h1 := total_le ok hl
  have h2 := h.room
  have h3 := h.hd.bas.z1
  unfold RoomOk needN
  omega
theorem addAll_len {H : List Int} : ∀ {S : List Int}, H.Nodup → (∀ x ∈ H, x ∉ S) → (addAll S H).length = S.length + H.length := by
  induction H with
  | nil => intro S _ _; rfl
  | cons x r ih =>
    intro S hn hd
    have h1 := List.nodup_cons.1 hn
    have e : addI x S = ins x S := by unfold addI; rw [if_neg (hd x (List.mem_cons_self ..))]
    show (addAll (addI x S) r).length = _
    rw [ih h1.2 (fun y hy hm => ?_), e, ins_length, List.length_cons]
    · omega
    · rcases mem_addI.1 hm with hm | hm
      · exact h1.1 (hm ▸ hy)
      · exact hd y (List.mem_cons_of_mem _ hy) hm
theorem settle_len (h : P.ok z) (hl : P.L.ok) (hk : RoomOk P) : (settleL P).S.length + (settleC P).length = P.L.S.length + P.L.H.length + P.chain.length := by
  have hc : ∀ x ∈ P.chain, 2 ≤ x ∧ x < P.L.z := fun x hx => by rw [h.lz]; exact h.cb x hx
  have hH : P.L.H.Nodup := hl.2.2.2.1.imp fun h => by omega
  have h1 : (addAll (P.L.S.drop (needN (P.L.S.length + P.L.H.length + P.chain.length))) P.L.H).length = _ := addAll_len hH fun x hx hm => h.sh x (List.mem_of_mem_drop hm) hx
  have h2 : (addAll (addAll (P.L.S.drop (needN (P.L.S.length + P.L.H.length + P.chain.length))) P.L.H) P.chain).length = _ := addAll_len h.cn fun x hx hm => by
    rcases mem_addAll.1 hm with hm | hm
    · exact (h.cs x hx).1 (List.mem_of_mem_drop hm)
    · exact (h.cs x hx).2 hm
  rw [settleL_is hc, settleC_len hk]
  show (addAll (addAll _ _) _).length + _ = _
  rw [h2, h1, List.length_drop]
  unfold RoomOk at hk
  omega
theorem keysL_len (h : P.ok z) (hz : z ≤ 1024) : (keysL P.add).length ≤ 1022 :=
  rising_le (keysL_rising P.add) fun x hx => add_range h hz x ((mem_keysL (add_range h hz) x).1 hx)
theorem storeS_done (S : St) (l : List Sheet) (t : Sheet) : (storeS S l t).1.done ≤ S.done + l.length + 3 := by
  have h1 := putS_done l S
  unfold storeS
  split
  · have h2 := putS_done [t] (putS S l).1
    simp only [List.length_singleton] at h2
    omega
  · omega
theorem commitL_len (h : P.ok z) (hz : z ≤ 1024) (hl : P.L.ok) : (commitL P).length ≤ 2044 := by
  unfold commitL
  rw [List.length_append, layC_length]
  have h1 := keysL_len h hz
  have h2 : (settleC P).length ≤ 1022 := by
    have := hl.short.1
    unfold settleC
    rw [List.length_take]
    omega
  have h3 : (adSh P.add).length = (keysL P.add).length := by unfold adSh; rw [List.length_map]
  omega
theorem commit_alive (hin : ∀ x ∈ commitL P, inR S x.1) (h8 : 8 ≤ S.pages.length) (hf : S.fuse = -1) : (commitR P S).2 = 0 ∧ (commitR P S).1.fuse = -1 := by
  have h1 := putS_alive (commitL P) S hf hin
  have hl := putS_len (commitL P) S
  have h2 := putS_alive [((((P.M.txn + 1) % 2 : Nat) : Int), sealed (bodyM (nextM P)))] (putS S (commitL P)).1 h1.2 (fun x hx => by
    rw [List.mem_singleton.1 hx]
    exact place_in (by omega) _)
  unfold commitR storeS
  rw [if_pos h1.1]
  exact h2
theorem head_mem {C : List Int} (h : 1 ≤ C.length) : headN C ∈ C := by
  cases C with
  | nil => simp at h
  | cons x r => exact List.mem_cons_self ..
theorem Ses.next_right (h : Ses S B P el) (ok : P.ok S.pages.length) (hl : P.L.ok) : rightM (nextM P) = true := by
  have hk := h.roomOk ok hl
  have hc := settleC_len hk
  have hr := h.room
  have h1 : 1 ≤ (settleC P).length := by rw [hc]; unfold needN; omega
  have h2 := List.mem_of_mem_take (head_mem h1)
  have h3 := hl.2.2.2.2.1 _ h2
  rw [ok.lz] at h3
  have h8 := h.hd.bas.z1
  have h9 := h.hd.bas.z2
  have hm := ok.mz
  unfold rightM nextM beginsB
  simp only [hm]
  have hrt := h.rt
  simp only [Bool.and_eq_true, Bool.or_eq_true, decide_eq_true_eq]
  refine ⟨⟨⟨by omega, by omega⟩, ?_⟩, .inr h3⟩
  rcases hrt with e | e
  · exact .inl e
  · exact .inr e
theorem Ses.commit (h : Ses S B P el) (ok : P.ok S.pages.length) (hl : P.L.ok) (ht : P.M.txn + 1 < 18446744073709551616) (hf : S.fuse = -1) :
    (commitR P S).2 = 0 ∧ (commitR P S).1.fuse = -1 ∧ Ses (commitR P S).1 (nextP P) (nextP P) B.M ∧ After S P (commitR P S).1 ∧ (commitR P S).1.pages.length = S.pages.length ∧ (commitR P S).1.done ≤ S.done + 2100 := by
  have hk := h.roomOk ok hl
  obtain ⟨hin, _⟩ := first_put h.hd ok hl h.tr
  obtain ⟨a1, a2⟩ := commit_alive hin h.hd.bas.z1 hf
  obtain ⟨d1, d2, d3⟩ := commit_done h.hd ok hl h.tr ht (h.next_right ok hl) hk a1
  have hsl := settle_len ok hl hk
  have hcl := settleC_len hk
  have hr := h.room
  have hc := h.c1
  have htot := total_le ok hl
  have h8 := h.hd.bas.z1
  have h9 := h.hd.bas.z2
  refine ⟨a1, a2, ⟨d1, InTr.refl rfl, ?_, ?_, ?_⟩, d2, d3, ?_⟩
  · rw [d3]
    show _ ≤ (settleL P).S.length
    unfold needN at hcl
    omega
  · show 1 ≤ (settleC P).length
    rw [hcl]; unfold needN; omega
  · rw [d3]; exact h.rt
  · have h1 := storeS_done S (commitL P) ((((P.M.txn + 1) % 2 : Nat) : Int), sealed (bodyM (nextM P)))
    have h2 := commitL_len ok h9 hl
    unfold commitR
    omega
theorem Ses.add_ (h : Ses S B P el) {y : Int} {r : List Int} (hy : P.L.S = y :: r) (hs : S.pages.length / 60 + 2 ≤ P.L.S.length) (bs : List UInt8) : Ses S B (addP P y bs) el := by
  have hm : y ∈ P.L.S := by rw [hy]; exact List.mem_cons_self ..
  refine ⟨h.hd, ⟨h.tr.M, h.tr.ch, fun x hx => h.tr.s x (List.mem_of_mem_tail hx), fun x hx => ?_⟩, ?_, h.c1, h.rt⟩
  · by_cases e : x = y
    · rw [e]; exact h.tr.s y hm
    · have : (addP P y bs).add x = P.add x := if_neg e
      rw [this] at hx
      exact h.tr.a x hx
  · show _ ≤ P.L.S.tail.length
    rw [List.length_tail]
    omega
theorem Ses.root_ (h : Ses S B P el) {r : Int} (hr : r = 0 ∨ (2 ≤ r ∧ r < (S.pages.length : Int))) : Ses S B { P with root := r } el := ⟨h.hd, ⟨h.tr.M, h.tr.ch, h.tr.s, h.tr.a⟩, h.room, h.c1, hr⟩
theorem Ses.drop_ (h : Ses S B P el) (id : Int) : Ses S B (dropP P id).1 el := by
  unfold dropP
  split
  · exact h
  · split
    · exact h
    · split
      · rename_i hs
        refine ⟨h.hd, ⟨h.tr.M, h.tr.ch, fun x hx => ?_, fun x hx => ?_⟩, ?_, h.c1, h.rt⟩
        · have hx : x ∈ (P.L.give id).S := hx
          unfold FSt.give at hx
          split at hx
          · rcases mem_addI.1 hx with e | hx
            · rw [e]; exact h.tr.a id hs
            · exact h.tr.s x hx
          · exact h.tr.s x hx
        · by_cases e : x = id
          · rw [e]; exact h.tr.a id hs
          · refine h.tr.a x ?_
            have hx : (if x = id then none else P.add x).isSome = true := hx
            rwa [if_neg e] at hx
        · have := h.room
          show _ ≤ (P.L.give id).S.length
          unfold FSt.give
          split
          · show _ ≤ (addI id P.L.S).length
            unfold addI
            split
            · exact this
            · rw [ins_length]; omega
          · exact this
      · refine ⟨h.hd, ⟨h.tr.M, h.tr.ch, fun x hx => ?_, h.tr.a⟩, ?_, h.c1, h.rt⟩
        · have hx : x ∈ (P.L.hold id).S := hx
          unfold FSt.hold at hx
          split at hx <;> exact h.tr.s x hx
        · have := h.room
          show _ ≤ (P.L.hold id).S.length
          unfold FSt.hold
          split <;> exact this

/-! ### the pages that it bears -/
def Away (P : PSt) (z : Nat) (id : Int) : Prop := (2 ≤ id ∧ id < (z : Int)) ∧ id ∉ P.L.S ∧ id ∉ P.L.H ∧ id ∉ P.chain
structure Bears (P : PSt) (S : St) (x : Int × List UInt8) : Prop where
  away : Away P S.pages.length x.1
  l1 : 1 ≤ x.2.length
  l2 : x.2.length ≤ 237
  has : ∃ t : Nat, t < 18446744073709551616 ∧ bytesAt P S x.1 = sealed (bodyOf (txnP (pieceP x.2) t))
theorem bytesAt_some {P : PSt} {S : St} {id : Int} {bs : List UInt8} (h : P.add id = some bs) : bytesAt P S id = bs := by unfold bytesAt; rw [h]
theorem bytesAt_none {P : PSt} {S : St} {id : Int} (h : P.add id = none) : bytesAt P S id = S.page id := by unfold bytesAt; rw [h]
theorem Bears.add_ {x : Int × List UInt8} (h : Bears P S x) {y : Int} {r : List Int} (hy : P.L.S = y :: r) (bs : List UInt8) : Bears (addP P y bs) S x := by
  have hm : y ∈ P.L.S := by rw [hy]; exact List.mem_cons_self ..
  have hne : x.1 ≠ y := fun e => h.away.2.1 (e ▸ hm)
  refine ⟨⟨h.away.1, fun hx => h.away.2.1 (List.mem_of_mem_tail hx), h.away.2.2⟩, h.l1, h.l2, ?_⟩
  have e : (addP P y bs).add x.1 = P.add x.1 := if_neg hne
  have e2 : bytesAt (addP P y bs) S x.1 = bytesAt P S x.1 := by unfold bytesAt; rw [e]
  rw [e2]
  exact h.has
theorem Bears.new {P : PSt} {S : St} (ok : P.ok S.pages.length) (hl : P.L.ok) {y : Int} {r : List Int} (hy : P.L.S = y :: r) {xs : List UInt8} (h1 : 1 ≤ xs.length) (h2 : xs.length ≤ 237) {t : Nat} (ht : t < 18446744073709551616) :
    Bears (addP P y (sealed (bodyOf (txnP (pieceP xs) t)))) S (y, xs) := by
  have hm : y ∈ P.L.S := by rw [hy]; exact List.mem_cons_self ..
  have hb := hl.2.2.2.2.1 y hm
  rw [ok.lz] at hb
  have hri : Rising (y :: r) := by rw [← hy]; exact hl.2.2.1
  refine ⟨⟨hb, ?_, ok.sh y hm, fun hc => (ok.cs y hc).1 hm⟩, h1, h2, t, ht, bytesAt_some (if_pos rfl)⟩
  show y ∉ P.L.S.tail
  rw [hy]
  exact fun hm => by have := (Rising.cons.1 hri).1 y hm; omega
theorem Bears.root_ {x : Int × List UInt8} (h : Bears P S x) (r : Int) : Bears { P with root := r } S x := ⟨h.away, h.l1, h.l2, h.has⟩
theorem Bears.commit {x : Int × List UInt8} (h : Bears P S x) (ok : P.ok S.pages.length) (hz : S.pages.length ≤ 1024) {S' : St} (ha : After S P S') (hl : S'.pages.length = S.pages.length) : Bears (nextP P) S' x := by
  have hc : ∀ x ∈ P.chain, 2 ≤ x ∧ x < P.L.z := fun x hx => by rw [ok.lz]; exact ok.cb x hx
  refine ⟨⟨by rw [hl]; exact h.away.1, fun hm => ?_, fun hm => ?_, fun hm => h.away.2.1 (List.mem_of_mem_take hm)⟩, h.l1, h.l2, ?_⟩
  · rcases (mem_settleL hc x.1).1 hm with hm | hm | hm
    · exact h.away.2.1 (List.mem_of_mem_drop hm)
    · exact h.away.2.2.1 hm
    · exact h.away.2.2.2 hm
  · have hm : x.1 ∈ (settleL P).H := hm
    rw [settleL_is hc] at hm
    cases hm
  · obtain ⟨t, ht, e⟩ := h.has
    refine ⟨t, ht, ?_⟩
    rw [← e]
    have e1 : bytesAt (nextP P) S' x.1 = S'.page x.1 := bytesAt_none rfl
    rw [e1]
    cases hx : P.add x.1 with
    | some bs => rw [bytesAt_some hx]; exact ha.new x.1 bs hx
    | none =>
      rw [bytesAt_none hx]
      refine ha.old x.1 ⟨by have := h.away.1.1; omega, h.away.1.2⟩ h.away.1.1 fun hm => ?_
      rw [commitL_ids] at hm
      rcases List.mem_append.1 hm with hm | hm
      · have := (mem_keysL (add_range ok hz) x.1).1 hm
        rw [hx] at this
        cases this
      · exact h.away.2.1 (List.mem_of_mem_take hm)
/-- What Read finds. -/
theorem Bears.reads {x : Int × List UInt8} (h : Bears P S x) : ∃ t : Nat, decPg (bytesAt P S x.1) = (txnP (pieceP x.2) t, 0) := by
  obtain ⟨t, ht, e⟩ := h.has
  refine ⟨t, ?_⟩
  rw [e]
  exact decPg_sealed (piece_right h.l1 h.l2 t) (by show (0 : Int) ≤ (t : Int); omega) (by show (t : Int) < _; omega)
end
/-! ### a formatted disk -/
theorem base_ses (z : Nat) (h1 : 8 ≤ z) (h2 : z ≤ 1024) : Ses (formatted z) (baseP z) (baseP z) (meta0 z) := by
  obtain ⟨f1, f2, f3, f4, f5⟩ := formatted_spec z h1 h2
  have e1 : (baseP z).L.S.length = z - 2 - needN (z - 2) := by
    show ((allIds z).drop (needN (z - 2))).length = _
    rw [List.length_drop, allIds_length]
  have e2 : (baseP z).chain.length = min (needN (z - 2)) (z - 2) := by
    show ((allIds z).take (needN (z - 2))).length = _
    rw [List.length_take, allIds_length]
  refine ⟨f5, InTr.refl rfl, ?_, ?_, .inl rfl⟩
  · rw [f3, e1]; unfold needN; omega
  · rw [e2]; unfold needN; omega
end Go.Proofs.YtdjcahhofonclaaGreatDoor
end

section
/-
  Commit and Read in a session; the law's lives.
-/
namespace Go.Proofs.YtdjcahhofonclaaGreatDoor
open Go.ChangeShapes Go.WideShapes Go.ChangeAt Go.RowKit
set_option linter.unusedVariables false
set_option linter.unusedSimpArgs false

section
variable {w : World} {p : Pgl} {B P : PSt} {S : St} {el : Mt}
theorem commit_ses (h : Pgr w p P S) (hs : Ses S B P el) (hf : S.fuse = -1) (ht : P.M.txn + 1 < 18446744073709551616) (hd : S.done ≤ 700000) (hF : Fours w) :
    Calls Tryz.prog 13 #[.pointer (some ⟨p.r, 0, none⟩)] w fun e w' => e = .returned (.int .i64 0) ∧ Hid (PLeft w w' p (nextP P) (commitR P S).1) := by
  obtain ⟨h0, _⟩ := hs.commit h.ok h.lst.1 ht hf
  have hc := commit_any h (hs.roomOk h.ok h.lst.1) ht (hs.next_right h.ok h.lst.1) hd hF
  rw [h0] at hc
  exact hc.mono fun e w' ⟨he, hl⟩ => ⟨he, kept (hl.out.2.2 h0)⟩
theorem read_bears (h : Pgr w p P S) (x : Int × List UInt8) (hb : Bears P S x) (hf : S.fuse ≠ 0) (hF : Fours w) :
    Calls Tryz.prog 35 #[.pointer (some ⟨p.r, 0, none⟩), .int .i64 x.1] w fun e w' => ∃ (l : Lay) (t : Nat), e = .returned (.tuple #[l.val, .int .i64 0]) ∧ Hid (RdPg w' l (txnP (pieceP x.2) t)) ∧ Below w.heap.size w w' := by
  have hfin : finB P.M.size x.1 = true := by rw [h.ok.mz]; simpa [finB] using hb.away.1
  obtain ⟨t, ht⟩ := hb.reads
  have hr := pread_any h x.1 hfin hf hF
  rw [ht] at hr
  exact hr.mono fun e w' ⟨l, he, hs, hb⟩ => ⟨l, t, he, kept hs.out.here, hb⟩
theorem PLeft.below {a w w' : World} {P' : PSt} {S' : St} (h : PLeft w w' p P' S') (hb : Below a.heap.size a w) (hn : ∀ j, p.all j → a.heap.size ≤ j) : Below a.heap.size a w' := by
  obtain ⟨p1, e1, e2, h1, t1, o1⟩ := h
  exact t1.only_new hb hb.size hn
end
/-- Where a pager and its disk lie: above a bound. -/
theorem PLeft.go {w w' : World} {p : Pgl} {P' : PSt} {S' : St} (h : PLeft w w' p P' S') : ∃ p' : Pgl, p'.r = p.r ∧ p'.d = p.d ∧ Pgr w' p' P' S' ∧ Turned w w' p.all ∧ ∀ B, B ≤ w.heap.size → (∀ j, p.all j → B ≤ j) → ∀ j, p'.all j → B ≤ j := by
  obtain ⟨p1, e1, e2, h1, t1, o1⟩ := h
  refine ⟨p1, e1, e2, h1, t1, fun B hB hn j hj => ?_⟩
  rcases hj with hj | hj
  · rcases o1 j hj with h5 | h5
    · exact hn j (.inl h5)
    · omega
  · exact hn j (.inr (e2 ▸ hj))
set_option maxRecDepth 100000 in
set_option maxHeartbeats 4000000 in
theorem lives_any (w : World) (hF : Fours w) : Calls Tryz.prog 8 #[] w fun e w' => e = .returned (.bool true) ∧ Below w.heap.size w w' := by
  have hm := made_any 8 w (by omega) (by omega) hF
  rw [show ((8 : Nat) : Int) = 8 from rfl] at hm
  have HM := kept hm
  clear hm
  have HF := kept hF
  obtain ⟨f1, f2, f3, f4, f5⟩ := formatted_spec 8 (by omega) (by omega)
  have hses := base_ses 8 (by omega) (by omega)
  have hS : (baseP 8).L.S = 3 :: [4, 5, 6, 7] := by decide
  have ht : (baseP 8).M.txn = 1 := rfl
  generalize baseP 8 = P0 at HM hses hS ht
  generalize formatted 8 = S0 at HM hses f2 f3 f4
  generalize meta0 8 = el at hses
  have HS := kept hS
  have HT := kept ht
  have HSES := kept hses
  have HFU := kept f2
  have HLN := kept f3
  have HDN := kept f4
  clear hF hses hS ht f1 f2 f3 f4 f5
  have HTX := fun W => kept (text_any ⟨#[120]⟩ W (by decide))
  go_enter Tryz.func8, Tryz.ntmps8
  go_wp2_with fail
  with_reducible refine HM.out.mono ?_
  rintro e w1 ⟨p, rfl, h1⟩
  have H1 := kept h1.out
  clear h1 HM
  go_wp2_with fail
  with_reducible refine (HTX w1).out.mono ?_
  rintro e w2 ⟨l, rfl, h2, hb2⟩
  have H2 := kept (H1.out.1.below hb2)
  have HB2 := kept (H1.out.2.1.trans (hb2.mono H1.out.2.1.size))
  have HAD := kept (add_ok H2.out l _ h2.out (HF.out.below HB2.out) (by rw [HT.out]; decide) (piece_right (by decide) (by decide) _) (by rw [HLN.out, HS.out]; decide) 3 _ HS.out)
  clear h2 hb2
  go_wp2_with fail
  with_reducible refine HAD.out.mono ?_
  rintro e w3 ⟨rfl, h3⟩
  obtain ⟨p3, e3, d3, k3, t3, o3⟩ := h3.out.go
  have HBR : Hid (Bears (addP P0 3 (sealed (bodyOf (txnP (pieceP [120]) (P0.M.txn + 1))))) S0 (3, [120])) := kept (Bears.new H2.out.ok H2.out.lst.1 HS.out (by decide) (by decide) (by rw [HT.out]; decide))
  have HSE : Hid (Ses S0 P0 (addP P0 3 (sealed (bodyOf (txnP (pieceP [120]) (P0.M.txn + 1))))) el) := kept (HSES.out.add_ HS.out (by rw [HLN.out, HS.out]; decide) _)
  have HT1 : Hid ((addP P0 3 (sealed (bodyOf (txnP (pieceP [120]) (P0.M.txn + 1))))).M.txn = 1) := kept HT.out
  have K3 : Hid (Pgr w3 p3 (addP P0 3 (sealed (bodyOf (txnP (pieceP [120]) (P0.M.txn + 1))))) S0) := kept k3
  have HB3 : Hid (Below w.heap.size w w3) := kept (t3.only_new HB2.out HB2.out.size H1.out.2.2)
  have HA3 := kept (o3 _ HB2.out.size H1.out.2.2)
  clear HAD h3 t3 o3 k3
  generalize addP P0 3 (sealed (bodyOf (txnP (pieceP [120]) (P0.M.txn + 1)))) = P3 at HBR HSE HT1 K3
  have HRD := kept (read_bears K3.out (3, [120]) HBR.out (by rw [HFU.out]; decide) (HF.out.below HB3.out))
  rw [e3] at HRD
  go_wp2_with fail
  with_reducible refine HRD.out.mono ?_
  rintro e w4 ⟨l4, t4, rfl, h4, hb4⟩
  have HB4 : Hid (Below w.heap.size w w4) := kept (HB3.out.trans (hb4.mono HB3.out.size))
  have K4 := kept (K3.out.below hb4)
  obtain ⟨kind, txn, next, a1, n1, k1, a2, n2, k2, a3, n3, k3, a4, n4, k4⟩ := l4
  have HKW := fun o => kept (K4.out.below ((Below.refl _ w4).alloc (Nat.le_refl _) o))
  have HBW := fun o => kept (HB4.out.alloc HB4.out.size o)
  have HCM := fun o => kept (commit_ses (HKW o).out HSE.out HFU.out (by rw [HT1.out]; decide) (by have := HDN.out; omega) (HF.out.below (HBW o).out))
  rw [e3] at HCM
  have hcv : ∀ o, (convert 62 9 (.slice a3 n3 k3)).run Tryz.prog (w4.alloc o) = .ok (.string ⟨#[120]⟩) (w4.alloc o) := fun o => (h4.out.data.alloc o).string k3 62 5 9 rfl rfl rfl
  clear h4 hb4 HRD HTX
  go_wp2_with (first | (go_at_call 13; (with_reducible refine ((HCM _).out).mono ?_); rintro e w5 ⟨rfl, h5⟩; obtain ⟨p5, e5, d5, k5, t5, o5⟩ := h5.out.go; have HTN := kept (txn_any k5); rw [e5, e3, show (nextP P3).M.txn = 2 from (show P3.M.txn + 1 = 2 by rw [HT1.out]), show ((2 : Nat) : Int) = 2 from rfl] at HTN; have HB5 := t5.only_new (HBW _).out (HBW _).out.size HA3.out) | (go_at_call 14; (with_reducible refine (HTN.out).mono ?_); rintro e w6 ⟨rfl, rfl⟩))
  go_ret
  exact ⟨rfl, HB5⟩
end Go.Proofs.YtdjcahhofonclaaGreatDoor
end

section
/-
  Slices of the law's kept pages (a number and a text), of the law's own, and append onto them.
-/
namespace Go.Proofs.YtdjcahhofonclaaGreatDoor
open Go.ChangeShapes Go.WideShapes Go.ChangeAt Go.RowKit
set_option linter.unusedVariables false
set_option linter.unusedSimpArgs false

abbrev Kept := Int × List UInt8
def kK : Sort' Kept Kept where
  size := 2
  cells L := [.int .i64 L.1, .string (strOf L.2)]
  R w L x := x = L
  apart L g := True
  pos := by decide
  len _ := rfl
  one L u h := by
    simp only [List.mem_cons, List.not_mem_nil, or_false] at h
    rcases h with rfl | rfl <;> rfl
  fresh h hg := trivial
  keep h ha hg := h
def OwK (w : World) (A : Option Addr) (n c : Nat) (l : List Kept) : Prop := l.length = n ∧ w.ownsRow 0 35 2 (.slice A n c) n (l.flatMap kK.cells)
def RdK (w : World) (A : Option Addr) (n : Nat) (l : List Kept) : Prop := l.length = n ∧ (0 < n → ∃ b o, A = some ⟨b, o, none⟩ ∧ ∀ j u, (l.flatMap kK.cells)[j]? = some u → w.cell? ⟨b, o + j, none⟩ = some u)
theorem keptInfo : (Tryz.prog.info? 35).map (fun i => (i.zero, i.size, i.bytes)) = some (some (.agg #[.int .i64 0, .string ⟨#[]⟩]), 2, 24) := by kernel_rfl
section
variable {w w' : World} {A : Option Addr} {n c : Nat} {l : List Kept}
theorem OwK.nil_ (w : World) : OwK w none 0 0 [] := ⟨rfl, World.ownsRow_nil _ _ _ _⟩
theorem OwK.cl (h : OwK w A n c l) {g : Nat} (hg : blkOf A = some g) : Cl w g 35 := by
  obtain ⟨h1, ho⟩ := h
  rcases ho.2 with ⟨h0, _⟩ | ⟨g', cap, cur, hv, hb, hh, _⟩
  · injection h0 with h0; rw [h0] at hg; cases hg
  · injection hv with hA
    rw [hA] at hg
    cases hg
    exact ⟨_, _, hh⟩
theorem OwK.reads (h : OwK w A n c l) : RdK w A n l := by
  obtain ⟨h1, ho⟩ := h
  refine ⟨h1, fun h0 => ?_⟩
  rcases ho.2 with ⟨_, h0'⟩ | ⟨g, cap, cur, hv, hbg, hb, _⟩
  · omega
  · injection hv with hA _ _
    subst hA
    refine ⟨g, 0, rfl, fun j u hu => ?_⟩
    have := ho.cells (g := g) rfl j u hu
    rw [add_at] at this
    exact this
theorem OwK.head (h : OwK w A n c l) (h0 : 0 < n) : ∃ g, A = some ⟨g, 0, none⟩ := by
  rcases h.2.2 with ⟨_, h0'⟩ | ⟨g, cap, cur, hv, _⟩
  · omega
  · injection hv with hA; exact ⟨g, hA⟩
theorem OwK.turned (h : OwK w A n c l) {T : Nat → Prop} (t : Turned w w' T) (hn : ∀ b, Cl w b 35 → ¬ T b) : OwK w' A n c l := by
  have hcl := fun g => h.cl (g := g)
  obtain ⟨h1, ho⟩ := h
  refine ⟨h1, ho.1, ?_⟩
  rcases ho.2 with h0 | ⟨g, cap, cur, hv, hb, hh, r⟩
  · exact .inl h0
  · refine .inr ⟨g, cap, cur, hv, hb, ?_, r⟩
    injection hv with hA
    have hc := hcl g (by rw [hA]; rfl)
    rw [t.block g hc.lt (hn g hc)]
    exact hh
theorem OwK.below (h : OwK w A n c l) (hb : Below w.heap.size w w') : OwK w' A n c l := h.turned (Turned.of_below hb (fun _ => False)) fun _ _ h => h
theorem RdK.below (h : RdK w A n l) (hb : Below w.heap.size w w') : RdK w' A n l := ⟨h.1, fun h0 => by
  obtain ⟨b, o, e, hc⟩ := h.2 h0
  exact ⟨b, o, e, fun j u hu => (hb.cell (World.block_lt_of_cell? w _ (hc j u hu))).trans (hc j u hu)⟩⟩
/-- Entry k: its two cells. -/
theorem RdK.at_ (h : RdK w A n l) {k : Nat} (hk : k < n) (hl : k < l.length) : ∃ b o, A = some ⟨b, o, none⟩ ∧ w.cell? ⟨b, o + k * 2, none⟩ = some (.int .i64 l[k].1) ∧ w.cell? ⟨b, o + k * 2 + 1, none⟩ = some (.string (strOf l[k].2)) := by
  obtain ⟨b, o, e, hc⟩ := h.2 (by omega)
  refine ⟨b, o, e, ?_, ?_⟩
  · have := flat_at kK l k 0 hl (by decide)
    exact hc (k * 2) _ this
  · have := flat_at kK l k 1 hl (by decide)
    exact hc (k * 2 + 1) _ this
theorem RdK.one (w : World) (x : Kept) : RdK (w.alloc (.cells #[.int .i64 x.1, .string (strOf x.2)] 35)) (some ⟨w.heap.size, 0, none⟩) 1 [x] := by
  have hb := Blk.new w 35 #[.int .i64 x.1, .string (strOf x.2)]
  refine ⟨rfl, fun _ => ⟨_, 0, rfl, fun j u hu => ?_⟩⟩
  rw [Nat.zero_add, hb.cell j]
  simpa [kK] using hu
end
set_option maxRecDepth 100000 in
theorem run_append_k {w : World} {A B : Option Addr} {n c m d : Nat} {X Y : List Kept} (h : OwK w A n c X) (hr : RdK w B m Y) (hm : n + m ≤ 1000000) (ty : TypeId) :
    ∃ A' c' w', (Builtin.append_ #[31, 31] ty #[.slice A n c, .slice B m d]).run Tryz.prog w = .ok (.slice A' (n + m) c') w' ∧ OwK w' A' (n + m) c' (X ++ Y) ∧ Turned w w' (fun j => blkOf A = some j) ∧ (∀ g, blkOf A' = some g → blkOf A = some g ∨ w.heap.size ≤ g) := by
  obtain ⟨i, hi, hz, hsz, hby⟩ := info_parts keptInfo
  obtain ⟨e1, ho⟩ := h
  rcases Nat.eq_zero_or_pos m with h0 | h0
  · subst h0
    obtain rfl : Y = [] := List.eq_nil_of_length_eq_zero hr.1
    refine ⟨A, c, w, ?_, by simpa using ⟨e1, ho⟩, Turned.refl _ _, fun g hg => .inl hg⟩
    have ht := Tryz.underlying31
    rcases ho.2 with ⟨hv, hn⟩ | ⟨g, cap, cur, hv, _, _, hnc, _⟩
    · injection hv with e1 e2 e3
      subst e1 e2 e3
      cases B <;> simp [Builtin.append_, run_underlying ht, sizeOf, typeInfo, hi, hsz, Builtin.lenOf, Builtin.firstCells, loadCells, loadCellsFrom]
    · injection hv with e1 e2 e3
      subst e1 e3
      cases B <;> simp [Builtin.append_, run_underlying ht, sizeOf, typeInfo, hi, hsz, Builtin.lenOf, Builtin.firstCells, loadCells, loadCellsFrom, hnc, storeCells]
  · obtain ⟨b, o, rfl, f2⟩ := hr.2 h0
    have f1 := hr.1
    have hlen : (Y.flatMap kK.cells).length = m * 2 := by
      rw [List.length_flatMap]
      have e : (Y.map fun a => (kK.cells a).length) = List.replicate Y.length 2 := by
        rw [List.map_congr_left (g := fun _ => 2) (fun a _ => kK.len a), List.map_const']
      rw [e, f1]
      simp
    obtain ⟨v', w', hrun, hown', hgrow, _, hloc⟩ := run_append_own_at (P := Tryz.prog) (w := w) 0 31 ty 35 i _ 2 24 Tryz.underlying31 hi hz hsz hby rfl (by decide) _ n (X.flatMap kK.cells) ho ⟨b, o, none⟩ m d (Y.flatMap kK.cells) hlen (fun j u hu => by rw [add_at]; exact f2 j u hu) (fun u hu => by
        obtain ⟨L, _, hL⟩ := List.mem_flatMap.1 hu
        exact kK.one L u hL)
      (by unfold maxLen; omega) (by omega) (Nat.zero_le _)
    rw [← List.flatMap_append] at hown'
    have hv : ∃ A' c', v' = .slice A' (n + m) c' := by
      rcases hown'.2 with ⟨rfl, h⟩ | ⟨g, cap, cur, rfl, _⟩
      · omega
      · exact ⟨_, _, rfl⟩
    obtain ⟨A', c', rfl⟩ := hv
    have eb : ∀ (A : Option Addr) n c, (Value.slice A n c).ownBlock = blkOf A := fun A n c => by cases A <;> rfl
    rw [eb] at hgrow
    rw [eb, eb] at hloc
    refine ⟨A', c', w', hrun, ⟨by simp [e1, f1], hown'⟩, Turned.of_grown hgrow (fun j hj => hj), fun g hg => ?_⟩
    rcases hloc with h1 | h1
    · exact .inl (h1 ▸ hg)
    · rw [h1] at hg; cases hg; exact .inr (Nat.le_refl _)
theorem wp_append_k {w : World} {o : Oper} {a : Act} {K : Act → World → Prop} {Q : Exit → Act → World → Prop} (s x : Operand) (ho : o.op = .call { callee := .builtin .append, args := #[s, x], argTypes := #[31, 31] })
    {A B : Option Addr} {n c m d : Nat} {X Y : List Kept} (hs : a.eval s = .slice A n c) (hx : a.eval x = .slice B m d) (h : OwK w A n c X) (hr : RdK w B m Y) (hm : n + m ≤ 1000000)
    (hK : ∀ A' c' w', OwK w' A' (n + m) c' (X ++ Y) → Turned w w' (fun j => blkOf A = some j) → (∀ g, blkOf A' = some g → blkOf A = some g ∨ w.heap.size ≤ g) → K (a.put o.dst (.slice A' (n + m) c')) w') : o.wp Tryz.prog a w K Q := by
  obtain ⟨A', c', w', hrun, h2, h3, h4⟩ := run_append_k h hr hm o.type (d := d)
  unfold Oper.wp execOp
  simp only [ho, resolve, invoke, builtin, Sem.run_bind, Sem.run_pure, Result.andThen_ok, List.map_toArray, List.map_cons, List.map_nil, hs, hx, hrun]
  exact hK A' c' w' h2 h3 h4
theorem wpList_append_k {w : World} {ops : Array Oper} {rest : List Oper} {o : Oper} {a : Act} {Q : Exit → Act → World → Prop} (hgd : o.guard = none) (s x : Operand) (ho : o.op = .call { callee := .builtin .append, args := #[s, x], argTypes := #[31, 31] })
    {A B : Option Addr} {n c m d : Nat} {X Y : List Kept} (hs : a.eval s = .slice A n c) (hx : a.eval x = .slice B m d) (h : OwK w A n c X) (hr : RdK w B m Y) (hm : n + m ≤ 1000000)
    (hK : ∀ A' c' w', OwK w' A' (n + m) c' (X ++ Y) → Turned w w' (fun j => blkOf A = some j) → (∀ g, blkOf A' = some g → blkOf A = some g ∨ w.heap.size ≤ g) → wpList Tryz.prog ops Q rest (a.put o.dst (.slice A' (n + m) c')) w') : wpList Tryz.prog ops Q (o :: rest) a w :=
  wpList_plain hgd fun _ hK' => wp_append_k s x ho hs hx h hr hm fun A' c' w' h2 h3 h4 => hK' _ _ (hK A' c' w' h2 h3 h4)
end Go.Proofs.YtdjcahhofonclaaGreatDoor
end

section
/-
  The law's add and shows.
-/
namespace Go.Proofs.YtdjcahhofonclaaGreatDoor
open Go.ChangeShapes Go.WideShapes Go.ChangeAt Go.RowKit
set_option linter.unusedVariables false
set_option linter.unusedSimpArgs false

theorem RdVals.there {w : World} {A : Option Addr} {n : Nat} {V : Nat → Value} (h : RdVals w A n V) {k : Nat} (hk : k < n) : ∃ b o, A = some ⟨b, o, none⟩ ∧ w.cell? ⟨b, o + k, none⟩ = some (V k) := by
  obtain ⟨⟨b, o, s⟩, e, hc⟩ := h (by omega)
  have hs : s = none := by
    have := World.cell?_spot (hc 0 (by omega))
    simpa [Addr.add] using this
  subst hs
  have := hc k hk
  rw [add_at] at this
  exact ⟨b, o, e, this⟩
theorem strOf_back (s : ByteArray) : strOf s.data.toList = s := by cases s; simp [strOf]
theorem strOf_size (xs : List UInt8) : (strOf xs).size = xs.length := by simp [strOf, ByteArray.size]
theorem strOf_data (xs : List UInt8) : (strOf xs).data.toList = xs := by simp [strOf]
theorem text_of (xs : List UInt8) (w : World) (h : xs.length ≤ 100000) : Calls Tryz.prog 25 #[.string (strOf xs)] w fun e w' => ∃ l : Lay, e = .returned l.val ∧ Hid (RdPg w' l (pieceP xs)) ∧ Below w.heap.size w w' := by
  have := text_any (strOf xs) w (by rw [strOf_size]; exact h)
  rwa [strOf_data] at this
section
variable {w w1 w2 : World} {p : Pgl} {P : PSt} {S : St}
theorem PLeft.on (h : PLeft w w1 p P S) (hb : Below w1.heap.size w1 w2) : PLeft w w2 p P S := h.trans fun p' _ _ k => k.left_below hb
theorem PLeft.then_ {w3 : World} {pk : Pgl} {P' : PSt} {S' : St} (e1 : pk.r = p.r) (e2 : pk.d = p.d) (t1 : Turned w w1 p.all) (o1 : ∀ j, pk.own j → p.own j ∨ w.heap.size ≤ j) (hb : Below w1.heap.size w1 w2) (h : PLeft w2 w3 pk P' S') : PLeft w w3 p P' S' := by
  obtain ⟨p2, f1, f2, h2, t2, o2⟩ := h
  have t12 : Turned w w2 p.all := t1.trans (Turned.of_below hb _)
  refine ⟨p2, f1.trans e1, f2.trans e2, h2, ⟨t2.os.trans t12.os, t2.tape.trans t12.tape, t2.output.trans t12.output, Nat.le_trans t12.size t2.size, fun j hj hn => ?_⟩, fun j hj => ?_⟩
  · refine (t2.block j (Nat.lt_of_lt_of_le hj t12.size) fun hk => ?_).trans (t12.block j hj hn)
    rcases hk with hk | hk
    · rcases o1 j hk with h5 | h5
      · exact hn (.inl h5)
      · omega
    · exact hn (.inr (e2 ▸ hk))
  · rcases o2 j hj with h5 | h5
    · exact o1 j h5
    · exact .inr (Nat.le_trans t12.size h5)
/-- A slice of kept pages that is new since w grows. -/
theorem PLeft.kept_grows (h : PLeft w w1 p P S) {A : Option Addr} {n c : Nat} {l : List Kept} (ho : OwK w1 A n c l) (hn : ∀ g, blkOf A = some g → w.heap.size ≤ g) (t : Turned w1 w2 (fun j => blkOf A = some j)) : PLeft w w2 p P S := by
  obtain ⟨p1, e1, e2, h1, t1, o1⟩ := h
  refine ⟨p1, e1, e2, h1.same t (fun j hj hb => h1.not_all (ho.cl hb) (by decide) (by decide) (by decide) (by decide) (by decide) hj) (fun b hc hb => absurd ((ho.cl hb).uniq hc) (by decide)), ?_, o1⟩
  refine ⟨t.os.trans t1.os, t.tape.trans t1.tape, t.output.trans t1.output, Nat.le_trans t1.size t.size, fun j hj hj2 => ?_⟩
  exact (t.block j (Nat.lt_of_lt_of_le hj t1.size) fun hb => by have := hn j hb; omega).trans (t1.block j hj hj2)
end
/-- What add has done to a pager that stood at P. -/
structure Added_ (S : St) (B : PSt) (el : Mt) (P P' : PSt) (l : List Kept) : Prop where
  ses : Ses S B P' el
  M : P'.M = P.M
  root : P'.root = P.root
  H : P'.L.H = P.L.H
  ch : P'.chain = P.chain
  new : ∀ x ∈ l, Bears P' S x
  old : ∀ x, Bears P S x → Bears P' S x
theorem Added_.more {S : St} {B P P' : PSt} {el : Mt} {l : List Kept} (h : Added_ S B el P P' l) (ok : P'.ok S.pages.length) (hl : P'.L.ok) (ht : P.M.txn + 1 < 18446744073709551616) {xs : List UInt8} (l1 : 1 ≤ xs.length) (l2 : xs.length ≤ 237) {y : Int} {r : List Int} (hy : P'.L.S = y :: r) (hs : S.pages.length / 60 + 2 ≤ P'.L.S.length) :
    Added_ S B el P (addP P' y (sealed (bodyOf (txnP (pieceP xs) (P'.M.txn + 1))))) (l ++ [(y, xs)]) := by
  refine ⟨h.ses.add_ hy hs _, h.M, h.root, h.H, h.ch, fun x hx => ?_, fun x hx => (h.old x hx).add_ hy _⟩
  rcases List.mem_append.1 hx with hx | hx
  · exact (h.new x hx).add_ hy _
  · rw [List.mem_singleton.1 hx]
    exact Bears.new ok hl hy l1 l2 (by rw [h.M]; exact ht)
/-- A pager that is new since a. -/
structure Rn (a w : World) (p : Pgl) (P : PSt) (S : St) : Prop where
  pg : Pgr w p P S
  pn : ∀ j, p.all j → a.heap.size ≤ j
  below : Below a.heap.size a w
theorem Rn.on {a w w' : World} {p : Pgl} {P : PSt} {S : St} (h : Rn a w p P S) (hb : Below w.heap.size w w') : Rn a w' p P S := ⟨h.pg.below hb, h.pn, h.below.trans (hb.mono h.below.size)⟩
theorem Rn.step {a w w' : World} {p : Pgl} {P P' : PSt} {S S' : St} (h : Rn a w p P S) (k : PLeft w w' p P' S') : ∃ p' : Pgl, p'.r = p.r ∧ p'.d = p.d ∧ Rn a w' p' P' S' := by
  obtain ⟨p1, e1, e2, h1, t1, o1⟩ := k
  refine ⟨p1, e1, e2, h1, fun j hj => ?_, t1.only_new h.below h.below.size h.pn⟩
  rcases hj with hj | hj
  · rcases o1 j hj with h5 | h5
    · exact h.pn j (.inl h5)
    · exact Nat.le_trans h.below.size h5
  · exact h.pn j (.inr (e2 ▸ hj))
theorem Rn.far {a w w' : World} {p : Pgl} {P P' : PSt} {S S' : St} (h : Rn a w p P S) (k : PLeft w w' p P' S') : Below a.heap.size a w' := (h.step k).choose_spec.2.2.below
set_option maxRecDepth 100000 in
set_option maxHeartbeats 4000000 in
theorem addk_any {a w : World} {p : Pgl} {B P : PSt} {S : St} {el : Mt} (h : Rn a w p P S) (hs : Ses S B P el) (ht : P.M.txn + 1 < 18446744073709551616) (hF : Fours a) (A : Option Addr) (n c : Nat) (X : Nat → ByteArray) (hr : RdVals a A n (fun i => .string (X i))) (hx : ∀ i, i < n → (X i).size ≤ maxLen) (hn : n ≤ 1000) :
    Calls Tryz.prog 10 #[.pointer (some ⟨p.r, 0, none⟩), .slice A n c] w fun e w' => ∃ (A' : Option Addr) (m c' : Nat) (l : List Kept) (P' : PSt), e = .returned (.slice A' m c') ∧ Hid (PLeft w w' p P' S ∧ Added_ S B el P P' l ∧ OwK w' A' m c' l ∧ (∀ g, blkOf A' = some g → w.heap.size ≤ g) ∧ m ≤ n) := by
  have HT := kept ht
  have HX := kept hx
  have HW := kept (fun (W : World) (P' : PSt) (hl : PLeft w W p P' S) => (show Fours W ∧ RdVals W A n (fun i => .string (X i)) ∧ Pgr W p P' S = Pgr W p P' S from ⟨hF.below (h.far hl), hr.below (h.far hl), rfl⟩))
  have H0 : Hid (PLeft w w p P S ∧ Added_ S B el P P [] ∧ OwK w none 0 0 [] ∧ (∀ g, blkOf none = some g → w.heap.size ≤ g)) := kept ⟨h.pg.left_self, ⟨hs, rfl, rfl, rfl, rfl, fun x hx => (by cases hx), fun x hx => hx⟩, OwK.nil_ _, fun g e => (by cases e)⟩
  clear h hs ht hF hr hx
  go_enter Tryz.func10, Tryz.ntmps10
  go_wp2
  go_loopw [5, 12] (fun o i wr => ∃ (k m c' : Nat) (A' : Option Addr) (l : List Kept) (P' : PSt), k ≤ n ∧ m ≤ k ∧ i = .int .i64 (k : Int) ∧ o = .slice A' m c' ∧ Hid (PLeft w wr p P' S ∧ Added_ S B el P P' l ∧ OwK wr A' m c' l ∧ (∀ g, blkOf A' = some g → w.heap.size ≤ g))) (fun _ i _ => n - (intOf i).toNat)
  case atStart => exact ⟨0, 0, 0, none, [], P, Nat.zero_le _, Nat.le_refl _, rfl, rfl, H0⟩
  case round =>
    obtain ⟨k, m, c', A', l, P', hk, hm, rfl, rfl, HL⟩ := hrel
    clear H0
    by_cases hlt : k < n
    · obtain ⟨b, o, rfl, hc⟩ := (HW.out _ _ HL.out.1).2.1.there hlt
      have hsm := HX.out k hlt
      obtain ⟨xs, hxs⟩ : ∃ xs, X k = strOf xs := ⟨(X k).data.toList, (strOf_back _).symm⟩
      rw [hxs] at hc hsm
      have hsz : (strOf xs).size = xs.length := strOf_size xs
      rw [hsz] at hsm
      have hsm2 : xs.length ≤ 9223372036854775807 := by unfold maxLen at hsm; omega
      clear hxs hsm
      by_cases h1 : xs.length < 1
      · have hb : decide ((xs.length : Int) < 1) = true := by simp; omega
        go_wp2
        go_roundw
        case rel => exact ⟨k + 1, m, c', A', l, P', by omega, by omega, by go_num, rfl, HL⟩
        case measure => simp [intOf]; omega
      · have hb : decide ((xs.length : Int) < 1) = false := by simp; omega
        by_cases h2 : 237 < xs.length
        · have hb2 : decide ((237 : Int) < (xs.length : Int)) = true := by simp; omega
          go_wp2
          go_roundw
          case rel => exact ⟨k + 1, m, c', A', l, P', by omega, by omega, by go_num, rfl, HL⟩
          case measure => simp [intOf]; omega
        · have hb2 : decide ((237 : Int) < (xs.length : Int)) = false := by simp; omega
          have HXL : Hid (1 ≤ xs.length ∧ xs.length ≤ 237) := kept ⟨by omega, by omega⟩
          have HTXW := kept (text_of xs wr (by omega))
          obtain ⟨pk, ek, dk, hk0, tk, ok⟩ := HL.out.1
          have HPK := kept hk0
          have HFK := kept (HW.out _ _ HL.out.1).1
          have hpm : P'.M.txn + 1 < 18446744073709551616 := by rw [HL.out.2.1.M]; exact HT.out
          have HTK := kept tk
          have HOK := kept ok
          clear hk0 tk ok
          by_cases hroom : S.pages.length / 60 + 2 ≤ P'.L.S.length
          · obtain ⟨y, rr, hy⟩ : ∃ y rr, P'.L.S = y :: rr := by
              cases h : P'.L.S with
              | nil => rw [h] at hroom; simp at hroom
              | cons y rr => exact ⟨y, rr, rfl⟩
            have HAD := kept (fun (l : Lay) (W : World) (hb : Below wr.heap.size wr W) (hr : RdPg W l (pieceP xs)) => add_ok (HPK.out.below hb) l _ hr (HFK.out.below hb) hpm (piece_right HXL.out.1 HXL.out.2 _) hroom y rr hy)
            have HAL : Hid (∀ W : World, ∀ W2 : World, Below wr.heap.size wr W → PLeft W W2 pk (addP P' y (sealed (bodyOf (txnP (pieceP xs) (P'.M.txn + 1))))) S → PLeft w W2 p (addP P' y (sealed (bodyOf (txnP (pieceP xs) (P'.M.txn + 1))))) S ∧ OwK W2 A' m c' l) := kept (fun W W2 hb hk => by
              refine ⟨PLeft.then_ ek dk HTK.out HOK.out hb hk, ?_⟩
              · have h3 := HL.out.2.2.1.below hb
                obtain ⟨q1, f1, f2, hq, tq, oq⟩ := hk
                exact h3.turned tq (fun b hc hj => (HPK.out.below hb).not_all hc (by decide) (by decide) (by decide) (by decide) (by decide) hj))
            have HAN : Hid (Added_ S B el P (addP P' y (sealed (bodyOf (txnP (pieceP xs) (P'.M.txn + 1))))) (l ++ [(y, xs)])) := kept (HL.out.2.1.more HPK.out.ok HPK.out.lst.1 HT.out HXL.out.1 HXL.out.2 hy hroom)
            rw [ek] at HAD
            generalize addP P' y (sealed (bodyOf (txnP (pieceP xs) (P'.M.txn + 1)))) = PN at HAD HAN HAL
            have hkb : m + 1 ≤ 1000000 := by omega
            have HNW := kept HL.out.2.2.2
            clear hroom hy hpm h1 h2
            go_wp2_with (first | (go_at_call 25; (with_reducible refine (HTXW.out).mono ?_); rintro e w3 ⟨l3, rfl, h3, hb3⟩; have HAD3 := kept (HAD.out l3 w3 hb3 h3.out); have HB3 := kept hb3; clear h3 hb3) | (go_at_call 24; (with_reducible refine (HAD3.out).mono ?_); rintro e w4 ⟨rfl, h4⟩; have H4 := kept (HAL.out w3 w4 HB3.out h4.out); clear h4) | (at_builtin; refine wpList_append_k rfl _ _ rfl rfl rfl (H4.out.2.below ((Below.refl _ w4).alloc (Nat.le_refl _) _)) (RdK.one w4 (y, xs)) hkb ?_; intro A5 c5 w5 h5 t5 g5; have HP5 : Hid (PLeft w w5 p PN S) := kept ((H4.out.1.on ((Below.refl _ w4).alloc (Nat.le_refl _) _)).kept_grows (H4.out.2.below ((Below.refl _ w4).alloc (Nat.le_refl _) _)) HNW.out t5); have H5 := kept h5; have HG5 : Hid (∀ g, blkOf A5 = some g → w.heap.size ≤ g) := kept (fun g hg => by rcases g5 g hg with k | k; exact HNW.out g k; exact Nat.le_trans (Nat.le_trans H4.out.1.choose_spec.2.2.2.1.size (by simp)) k); clear h5 t5 g5))
            go_roundw
            case rel => exact ⟨k + 1, m + 1, c5, A5, l ++ [(y, xs)], PN, by omega, by omega, by go_num, rfl, kept ⟨HP5.out, HAN.out, H5.out, HG5.out⟩⟩
            case measure => simp [intOf]; omega
          · have HAD := kept (fun (l : Lay) (W : World) (hb : Below wr.heap.size wr W) (hr : RdPg W l (pieceP xs)) => add_full (HPK.out.below hb) l _ hr (HFK.out.below hb) hpm (piece_right HXL.out.1 HXL.out.2 _) (by omega))
            have HAL : Hid (∀ W : World, ∀ W2 : World, Below wr.heap.size wr W → PLeft W W2 pk P' S → PLeft w W2 p P' S ∧ OwK W2 A' m c' l) := kept (fun W W2 hb hk => by
              refine ⟨PLeft.then_ ek dk HTK.out HOK.out hb hk, ?_⟩
              · have h3 := HL.out.2.2.1.below hb
                obtain ⟨q1, f1, f2, hq, tq, oq⟩ := hk
                exact h3.turned tq (fun b hc hj => (HPK.out.below hb).not_all hc (by decide) (by decide) (by decide) (by decide) (by decide) hj))
            rw [ek] at HAD
            clear hroom hpm h1 h2
            go_wp2_with (first | (go_at_call 25; (with_reducible refine (HTXW.out).mono ?_); rintro e w3 ⟨l3, rfl, h3, hb3⟩; have HAD3 := kept (HAD.out l3 w3 hb3 h3.out); have HB3 := kept hb3; clear h3 hb3) | (go_at_call 24; (with_reducible refine (HAD3.out).mono ?_); rintro e w4 ⟨rfl, h4⟩; have H4 := kept (HAL.out w3 w4 HB3.out h4.out); clear h4))
            go_roundw
            case rel => exact ⟨k + 1, m, c', A', l, P', by omega, by omega, by go_num, rfl, kept ⟨H4.out.1, HL.out.2.1, H4.out.2, HL.out.2.2.2⟩⟩
            case measure => simp [intOf]; omega
    · obtain rfl : k = n := by omega
      go_wp2
      go_ret
      exact ⟨A', m, c', l, P', rfl, kept ⟨HL.out.1, HL.out.2.1, HL.out.2.2.1, HL.out.2.2.2, hm⟩⟩
/-! ### shows -/
theorem grown_below {a w w' : World} {m : Nat} (hb : Below a.heap.size a w) (h : w.grownBy w' (some m)) (hm : a.heap.size ≤ m) : Below a.heap.size a w' :=
  (Turned.of_grown (T := fun j => j = m) h (fun j e => (Option.some.inj e).symm)).only_new hb hb.size (fun i e => by rw [e]; exact hm)
set_option maxRecDepth 100000 in
set_option maxHeartbeats 4000000 in
theorem showsk_any {w : World} {p : Pgl} {P : PSt} {S : St} (h : Pgr w p P S) (hf : S.fuse ≠ 0) (hF : Fours w) (A : Option Addr) (n c : Nat) (l : List Kept) (hr : RdK w A n l) (hn : n ≤ 1000) (hb : ∀ x ∈ l, Bears P S x) :
    Calls Tryz.prog 19 #[.pointer (some ⟨p.r, 0, none⟩), .slice A n c] w fun e w' => e = .returned (.bool true) ∧ Below w.heap.size w w' := by
  have HW := kept (fun (W : World) (hb : Below w.heap.size w W) => (show Pgr W p P S ∧ Fours W ∧ RdK W A n l from ⟨h.below hb, hF.below hb, hr.below hb⟩))
  have HFU := kept hf
  have HB := kept hb
  have hl := hr.1
  have HSP := kept (pspare_any ((HW.out _ ((Below.refl w.heap.size w).alloc (Nat.le_refl _) (.map #[] 0))).1))
  have HOK := kept h.lst.1
  have HS0 := kept (MSet.made w)
  obtain ⟨s, hs⟩ : ∃ s, P.L.S.length = s := ⟨_, rfl⟩
  rw [hs] at HSP
  have hs1 : s ≤ 1022 := by have := h.lst.1.short.1; omega
  have HSL := kept hs
  clear h hf hF hr hb hs
  have hmm := @run_makeMap Tryz.prog
  go_enter Tryz.func19, Tryz.ntmps19
  go_wp2_with fail
  clear hmm
  with_reducible refine HSP.out.mono ?_
  rintro e w2 ⟨A2, c2, rfl, h2⟩
  have HS2 : Hid (MSet w2 w.heap.size []) := kept (HS0.out.below h2.out.2.1)
  have HB2 : Hid (Below w.heap.size w w2) := kept (((Below.refl w.heap.size w).alloc (Nat.le_refl _) (.map #[] 0)).trans (h2.out.2.1.mono (by simp)))
  have HO2 := kept h2.out.1
  clear h2 HSP HS0
  rw [HSL.out] at HO2
  go_wp2
  go_loopw [16] (fun i wr => ∃ k : Nat, k ≤ s ∧ i = .int .i64 (k : Int) ∧ Hid (MSet wr w.heap.size (addAll [] (P.L.S.take k)) ∧ Below w.heap.size w wr ∧ OwI wr A2 s c2 P.L.S)) (fun i _ => s - (intOf i).toNat)
  case atStart => exact ⟨0, Nat.zero_le _, rfl, kept ⟨HS2.out, HB2.out, HO2.out⟩⟩
  case round =>
    obtain ⟨k, hk, rfl, HL⟩ := hrel
    clear HS2 HB2 HO2
    by_cases hlt : k < s
    · have hkl : k < P.L.S.length := by rw [HSL.out]; exact hlt
      obtain ⟨b, o, rfl, hcell⟩ := HL.out.2.2.reads.2 (by omega)
      have hx := hcell k hkl
      have hxm : P.L.S[k] ∈ P.L.S := List.getElem_mem _
      obtain ⟨x, hxx⟩ : ∃ x, P.L.S[k] = x := ⟨_, rfl⟩
      have HT : Hid (P.L.S.take (k + 1) = P.L.S.take k ++ [x]) := kept (by rw [← hxx]; exact List.take_succ_eq_append_getElem hkl)
      rw [hxx] at hx hxm
      have hwx : Wf x := by
        have h1 := HOK.out.2.2.2.2.1 x hxm
        have h2 := HOK.out.2.1
        exact ⟨by omega, by omega⟩
      have HWX := kept hwx
      have HLN : Hid ((addAll [] (P.L.S.take k)).length < maxLen) := kept (by
        have h1 := length_addAll_le [] (P.L.S.take k)
        rw [List.length_take, HSL.out, List.length_nil] at h1
        unfold maxLen
        omega)
      have HNE : Hid (w.heap.size ≠ b) := kept (fun e => by
        obtain ⟨es, cl, h1⟩ := HL.out.1.kind
        obtain ⟨cs, q, h2⟩ := HL.out.2.2.cl (g := b) rfl
        rw [← e, h1] at h2
        cases h2)
      clear hcell hwx hxm hxx
      go_wp2_with (first | (at_mapUpdate; go_loud (refine wpList_put_ms rfl _ _ _ rfl HL.out.1 HLN.out rfl x rfl HWX.out rfl ?_; intro w4 hm4 hg4; have HM4 := kept hm4; have HG4 := kept hg4; clear hm4 hg4)))
      go_roundw
      case rel =>
        refine ⟨k + 1, by omega, by go_num, kept ⟨?_, grown_below HL.out.2.1 HG4.out (Nat.le_refl _), ?_⟩⟩
        · have e : addAll [] (P.L.S.take (k + 1)) = addI x (addAll [] (P.L.S.take k)) := by
            rw [HT.out]
            unfold addAll
            rw [List.foldl_append]
            rfl
          rw [e]
          exact HM4.out
        · exact HL.out.2.2.turned (Turned.of_grown (T := fun j => j = w.heap.size) HG4.out (fun j e => (Option.some.inj e).symm)) (fun g hg e => by cases hg; exact HNE.out e.symm)
      case measure => simp [intOf]; omega
    · obtain rfl : k = s := by omega
      have HM : Hid (MSet wr w.heap.size (addAll [] P.L.S)) := kept (by
        have := HL.out.1
        rwa [List.take_of_length_le (by rw [HSL.out]; exact Nat.le_refl _)] at this)
      have HBL := kept HL.out.2.1
      have HMM : Hid (∀ x, x ∈ addAll [] P.L.S ↔ x ∈ P.L.S) := kept (fun x => by rw [mem_addAll]; simp)
      clear HL HSL hk hlt
      generalize addAll [] P.L.S = T at HM HMM
      go_wp2
      go_loopw [25] (fun i wx => ∃ j : Nat, j ≤ n ∧ i = .int .i64 (j : Int) ∧ Hid (MSet wx w.heap.size T ∧ Below w.heap.size w wx)) (fun i _ => n - (intOf i).toNat)
      case atStart => exact ⟨0, Nat.zero_le _, rfl, kept ⟨HM.out, HBL.out⟩⟩
      case round =>
        obtain ⟨j, hj, rfl, HX⟩ := hrel
        clear HM HBL
        by_cases hlt : j < n
        · have hjl : j < l.length := by rw [hl]; exact hlt
          obtain ⟨b, o, hA, c0, c1⟩ := (HW.out wr HX.out.2).2.2.at_ hlt hjl
          subst hA
          have hbx := HB.out l[j] (List.getElem_mem _)
          obtain ⟨x, hx⟩ : ∃ x, l[j] = x := ⟨_, rfl⟩
          rw [hx] at c0 c1 hbx
          clear hx hjl
          obtain ⟨id, xs⟩ := x
          simp only at c0 c1
          have hwx : Wf id := by
            have h1 := hbx.away.1
            have h2 := (HW.out wr HX.out.2).1.dsk.1.2.1
            have h1 : 2 ≤ id ∧ id < (S.pages.length : Int) := h1
            exact ⟨by omega, by omega⟩
          have hb1 : Below w.heap.size w (wr.alloc (.cells #[.int .i64 id, .string (strOf xs)] 35)) := HX.out.2.alloc HX.out.2.size _
          have HRD := kept (read_bears (HW.out _ hb1).1 (id, xs) hbx HFU.out (HW.out _ hb1).2.1)
          have HK1 := kept (Blk.new wr 35 #[.int .i64 id, .string (strOf xs)])
          have HB1 := kept hb1
          have HM1 := kept (HX.out.1.below ((Below.refl wr.heap.size wr).alloc (Nat.le_refl _) (.cells #[.int .i64 id, .string (strOf xs)] 35)))
          have HNO : Hid (decide (id ∈ T) = false) := kept (by
            have h1 : id ∉ P.L.S := hbx.away.2.1
            rw [← HMM.out id] at h1
            simpa using h1)
          have HWX := kept hwx
          clear hwx hb1 hbx
          go_wp2_with (first | (go_at_call 35; (with_reducible refine HRD.out.mono ?_); rintro e w3 ⟨l3, t3, rfl, h3, hb3⟩; have hk3 := HK1.out.below hb3 HK1.out.lt; have q0 : w3.cell? ⟨wr.heap.size, 0, none⟩ = some (.int .i64 id) := hk3.cell 0; have q1 : w3.cell? ⟨wr.heap.size, 1, none⟩ = some (.string (strOf xs)) := hk3.cell 1; have hq := hk3.lt; have HM3 := kept (HM1.out.below hb3); have HB3 : Hid (Below w.heap.size w w3) := kept (HB1.out.trans (hb3.mono HB1.out.size)); obtain ⟨kind, txn, next, a1, n1, k1, a2, n2, k2, a3, n3, k3, a4, n4, k4⟩ := l3; have hcv : ∀ o, (convert 62 9 (.slice a3 n3 k3)).run Tryz.prog (w3.alloc o) = .ok (.string (strOf xs)) (w3.alloc o) := (fun o => (h3.out.data.alloc o).string k3 62 5 9 rfl rfl rfl); have hlk : ∀ o, (Instr.lookup 125 (.map (some w.heap.size)) (.int .i64 id) false).run Tryz.prog (w3.alloc o) = .ok (.bool false) (w3.alloc o) := (fun o => by have := (HM3.out.below ((Below.refl w3.heap.size w3).alloc (Nat.le_refl _) o)).look HWX.out; rwa [HNO.out] at this); clear h3 hb3 hk3))
          go_roundw
          case rel => exact ⟨j + 1, by omega, by go_num, kept ⟨HM3.out.below ((Below.refl w3.heap.size w3).alloc (Nat.le_refl _) _), HB3.out.alloc HB3.out.size _⟩⟩
          case measure => simp [intOf]; omega
        · obtain rfl : j = n := by omega
          go_wp2
          go_ret
          exact ⟨rfl, HX.out.2⟩
end Go.Proofs.YtdjcahhofonclaaGreatDoor
end

section
/-
  What stands beside a pager while PagerUndoes plays with it.
-/
namespace Go.Proofs.YtdjcahhofonclaaGreatDoor
open Go.ChangeShapes Go.WideShapes Go.ChangeAt Go.RowKit
set_option linter.unusedVariables false
set_option linter.unusedSimpArgs false

theorem dropP_same (P : PSt) (id : Int) : (dropP P id).1.M = P.M ∧ (dropP P id).1.chain = P.chain ∧ (dropP P id).1.root = P.root := by
  unfold dropP
  split
  · exact ⟨rfl, rfl, rfl⟩
  · split
    · exact ⟨rfl, rfl, rfl⟩
    · split <;> exact ⟨rfl, rfl, rfl⟩
/-- A saved transaction, a slice of kept pages and a slice of numbers, all apart from the pager. -/
structure Undo (a w : World) (p : Pgl) (P : PSt) (S : St) (b : Nat) (sv : List Value) (f : Fl) (m : Nat) (V : Int → Option Value) (L : FSt) (add : Adds) (A : Option Addr) (n c : Nat) (l : List Kept) (D : Option Addr) (k d : Nat) (I : List Int) : Prop where
  rn : Rn a w p P S
  box : Blk w b 52 sv
  lst : Lst w f L
  adm : AdM w m V add
  kpt : OwK w A n c l
  nums : OwI w D k d I
  fap : ∀ j, f.own j → ¬ p.all j
  map_ : ¬ p.all m
  dap : ∀ g, blkOf D = some g → ¬ p.all g
section
variable {a w w' : World} {p : Pgl} {P P' : PSt} {S S' : St} {b : Nat} {sv : List Value} {f : Fl} {m : Nat} {V : Int → Option Value} {L : FSt} {add : Adds} {A : Option Addr} {n c : Nat} {l : List Kept} {D : Option Addr} {k d : Nat} {I : List Int}
theorem Undo.on (h : Undo a w p P S b sv f m V L add A n c l D k d I) (hb : Below w.heap.size w w') : Undo a w' p P S b sv f m V L add A n c l D k d I :=
  ⟨h.rn.on hb, h.box.below hb h.box.lt, h.lst.below hb, ⟨h.adm.1.keep (hb.block _ h.adm.1.lt), h.adm.2.below hb⟩, h.kpt.below hb, h.nums.below hb, h.fap, h.map_, h.dap⟩
theorem Undo.step (h : Undo a w p P S b sv f m V L add A n c l D k d I) (q : PLeft w w' p P' S') : ∃ p' : Pgl, p'.r = p.r ∧ p'.d = p.d ∧ Undo a w' p' P' S' b sv f m V L add A n c l D k d I := by
  obtain ⟨p1, e1, e2, h1, t1, o1⟩ := q
  have hall : ∀ j, j < w.heap.size → p1.all j → p.all j := fun j hj ha => by
    rcases ha with ha | ha
    · rcases o1 j ha with h5 | h5
      · exact .inl h5
      · omega
    · exact .inr (e2 ▸ ha)
  have hu : ∀ g, Cl w g 5 → ¬ p.all g := fun g hg => h.rn.pg.not_all hg (by decide) (by decide) (by decide) (by decide) (by decide)
  refine ⟨p1, e1, e2, ⟨h1, fun j hj => ?_, t1.only_new h.rn.below h.rn.below.size h.rn.pn⟩, t1.blk h.box (fun hj => h.rn.pg.not_all h.box.cl (by decide) (by decide) (by decide) (by decide) (by decide) hj), h.lst.turned t1 h.fap, ⟨h.adm.1.keep (t1.block _ h.adm.1.lt h.map_), h.adm.2.turned t1 hu⟩, h.kpt.turned t1 (fun g hg => h.rn.pg.not_all hg (by decide) (by decide) (by decide) (by decide) (by decide)), h.nums.turned t1 h.dap, fun j hj ha => h.fap j hj (hall j (h.lst.lt hj) ha), fun ha => h.map_ (hall m h.adm.1.lt ha), fun g hg ha => h.dap g hg (hall g (h.nums.lt hg) ha)⟩
  rcases hj with hj | hj
  · rcases o1 j hj with h5 | h5
    · exact h.rn.pn j (.inl h5)
    · exact Nat.le_trans h.rn.below.size h5
  · exact h.rn.pn j (.inr (e2 ▸ hj))
end
theorem back_eq {P4 P1 : PSt} (h1 : P4.M = P1.M) (h2 : P4.chain = P1.chain) : ({ P4 with root := P1.root, L := P1.L, add := P1.add } : PSt) = P1 := by
  obtain ⟨M, C, r, L, ad⟩ := P1
  obtain ⟨M', C', r', L', ad'⟩ := P4
  simp only at h1 h2
  subst h1 h2
  rfl
end Go.Proofs.YtdjcahhofonclaaGreatDoor
end

section
/-
  A pager beside a slice of numbers; what PagerFills does, told of the pager's state.
-/
namespace Go.Proofs.YtdjcahhofonclaaGreatDoor
open Go.ChangeShapes Go.WideShapes Go.ChangeAt Go.RowKit
set_option linter.unusedVariables false
set_option linter.unusedSimpArgs false

theorem placed7 (a : Int) (m : Nat) (h0 : 0 < m) (h1 : m ≤ 4096) : ∃ r : Nat, r < m ∧ wrap64 ((IntKind.u64.wrap a).tmod (m : Int)) = (r : Int) := by
  rw [IntKind.wrap_u64]
  have h2 : 0 ≤ a % 18446744073709551616 := Int.emod_nonneg _ (by omega)
  have e : (a % 18446744073709551616).tmod (m : Int) = a % 18446744073709551616 % (m : Int) := Int.tmod_eq_emod_of_nonneg h2
  rw [e]
  have h3 : 0 ≤ a % 18446744073709551616 % (m : Int) := Int.emod_nonneg _ (by omega)
  have h4 : a % 18446744073709551616 % (m : Int) < (m : Int) := Int.emod_lt_of_pos _ (by omega)
  rw [IntWalk.wrap64_in _ ⟨by omega, by omega⟩]
  exact ⟨(a % 18446744073709551616 % (m : Int)).toNat, by omega, by omega⟩
structure Lay2 (a w : World) (p : Pgl) (P : PSt) (S : St) (A : Option Addr) (n c : Nat) (I : List Int) : Prop where
  pg : Pgr w p P S
  own : OwI w A n c I
  ap : ∀ g, blkOf A = some g → ¬ p.all g
  an : ∀ g, blkOf A = some g → a.heap.size ≤ g
  pn : ∀ j, p.all j → a.heap.size ≤ j
  below : Below a.heap.size a w
section
variable {a w w' : World} {p : Pgl} {P P' : PSt} {S S' : St} {A A' : Option Addr} {n c n' c' : Nat} {I I' : List Int}
theorem Lay2.on (h : Lay2 a w p P S A n c I) (hb : Below w.heap.size w w') : Lay2 a w' p P S A n c I :=
  ⟨h.pg.below hb, h.own.below hb, h.ap, h.an, h.pn, h.below.trans (hb.mono h.below.size)⟩
theorem Lay2.step (h : Lay2 a w p P S A n c I) (k : PLeft w w' p P' S') : ∃ p' : Pgl, p'.r = p.r ∧ p'.d = p.d ∧ Lay2 a w' p' P' S' A n c I := by
  obtain ⟨p1, e1, e2, h1, t1, o1⟩ := k
  refine ⟨p1, e1, e2, h1, h.own.turned t1 h.ap, fun g hg hj => ?_, h.an, fun j hj => ?_, t1.only_new h.below h.below.size h.pn⟩
  · rcases hj with hj | hj
    · rcases o1 g hj with h5 | h5
      · exact h.ap g hg (.inl h5)
      · have := h.own.lt hg; omega
    · exact h.ap g hg (.inr (e2 ▸ hj))
  · rcases hj with hj | hj
    · rcases o1 j hj with h5 | h5
      · exact h.pn j (.inl h5)
      · exact Nat.le_trans h.below.size h5
    · exact h.pn j (.inr (e2 ▸ hj))
theorem Lay2.grow (h : Lay2 a w p P S A n c I) (ho : OwI w' A' n' c' I') (t : Turned w w' (fun j => blkOf A = some j)) (hg : ∀ g, blkOf A' = some g → blkOf A = some g ∨ w.heap.size ≤ g) : Lay2 a w' p P S A' n' c' I' := by
  refine ⟨h.pg.same t (fun j hj hb => h.ap j hb hj) (fun b hc hb => absurd ((h.own.cl hb).uniq hc) (by decide)), ho, fun g e hj => ?_, fun g e => ?_, h.pn, t.only_new h.below h.below.size (fun i hi => h.an i hi)⟩
  · rcases hg g e with k | k
    · exact h.ap g k hj
    · have := h.pg.lt_all hj; omega
  · rcases hg g e with k | k
    · exact h.an g k
    · exact Nat.le_trans h.below.size k
theorem Lay2.start (h : Pgr w p P S) (hb : Below a.heap.size a w) (hn : ∀ j, p.all j → a.heap.size ≤ j) : Lay2 a w p P S none 0 0 [] :=
  ⟨h, OwI.nil_ _, fun g e => (by cases e), fun g e => (by cases e), hn, hb⟩
end
theorem hold_no {s : FSt} {x : Int} (h : s.may x ≠ 0) : s.hold x = s := by unfold FSt.hold; rw [if_neg h]
namespace pagerFills
/-- k pages have been added. -/
structure Fill (z k : Nat) (xs : List UInt8) (B : PSt) (S : St) (el : Mt) (P : PSt) (I : List Int) : Prop where
  ses : Ses S B P el
  cnt : P.L.S.length + k = z - 2 - needN (z - 2)
  H : P.L.H = []
  ch : P.chain.length = needN (z - 2)
  tx : P.M.txn = 1
  n : I.length = k
  nd : I.Nodup
  brs : ∀ x ∈ I, Bears P S (x, xs)
section
variable {z k : Nat} {xs : List UInt8} {B P : PSt} {S : St} {el : Mt} {I : List Int}
theorem Fill.zero (h1 : 8 ≤ z) (h2 : z ≤ 1024) : Fill z 0 xs (baseP z) (formatted z) (meta0 z) (baseP z) [] := by
  refine ⟨base_ses z h1 h2, ?_, rfl, ?_, rfl, rfl, List.nodup_nil, fun x hx => (by cases hx)⟩
  · show ((allIds z).drop (needN (z - 2))).length + 0 = _
    rw [List.length_drop, allIds_length]; omega
  · show ((allIds z).take (needN (z - 2))).length = _
    rw [List.length_take, allIds_length]
    unfold needN; omega
theorem Fill.more (h : Fill z k xs B S el P I) (hl : S.pages.length = z) (ok : P.ok S.pages.length) (hlo : P.L.ok) (l1 : 1 ≤ xs.length) (l2 : xs.length ≤ 237) {y : Int} {r : List Int} (hy : P.L.S = y :: r) (hs : z / 60 + 2 ≤ P.L.S.length) :
    Fill z (k + 1) xs B S el (addP P y (sealed (bodyOf (txnP (pieceP xs) (P.M.txn + 1))))) (I ++ [y]) := by
  have hm : y ∈ P.L.S := by rw [hy]; exact List.mem_cons_self ..
  refine ⟨h.ses.add_ hy (by rw [hl]; exact hs) _, ?_, h.H, h.ch, h.tx, by rw [List.length_append, h.n]; rfl, ?_, fun x hx => ?_⟩
  · have := h.cnt
    show P.L.S.tail.length + (k + 1) = _
    rw [List.length_tail]; omega
  · rw [List.nodup_append]
    refine ⟨h.nd, by simp, fun x hx y' hy' e => ?_⟩
    obtain rfl := List.mem_singleton.1 hy'
    exact (h.brs x hx).away.2.1 (e ▸ hm)
  · rcases List.mem_append.1 hx with hx | hx
    · exact (h.brs x hx).add_ hy _
    · obtain rfl := List.mem_singleton.1 hx
      exact Bears.new ok hlo hy l1 l2 (by rw [h.tx]; decide)
/-- k of the pages have been dropped. -/
structure Fall (k : Nat) (Q : PSt) (S : St) (el : Mt) (P : PSt) (I : List Int) : Prop where
  ses : Ses S Q P el
  s : P.L.S = Q.L.S
  ch : P.chain = Q.chain
  M : P.M = Q.M
  add : P.add = fun _ => none
  n : P.L.H.length = k
  H : ∀ x ∈ P.L.H, x ∈ I.take k
theorem Fall.drop (h : Fall k B S el P I) (ok : P.ok S.pages.length) (hl : P.L.ok) (nd : I.Nodup) (hk : k < I.length) (ha : ∀ x ∈ I, Away B S.pages.length x) :
    (dropP P I[k]).2 = 0 ∧ Fall (k + 1) B S el (dropP P I[k]).1 I ∧ dropP (dropP P I[k]).1 I[k] = ((dropP P I[k]).1, 8) := by
  obtain ⟨x, hx⟩ : ∃ x, I[k] = x := ⟨_, rfl⟩
  have hxm : x ∈ I := by rw [← hx]; exact List.getElem_mem _
  have hnt : x ∉ I.take k := fun hm => by
    have h1 : I.take (k + 1) = I.take k ++ [x] := by rw [← hx]; exact List.take_succ_eq_append_getElem hk
    have h2 : (I.take (k + 1)).Nodup := nd.sublist (List.take_sublist _ _)
    rw [h1, List.nodup_append] at h2
    exact h2.2.2 x hm x (List.mem_singleton.2 rfl) rfl
  have hT : I.take (k + 1) = I.take k ++ [x] := by rw [← hx]; exact List.take_succ_eq_append_getElem hk
  rw [hx]
  obtain ⟨a1, a2, a3, a4⟩ := ha x hxm
  have hb : finB P.M.size x ≠ false := by rw [ok.mz]; simpa [finB] using a1
  have hc : x ∉ P.chain := by rw [h.ch]; exact a4
  have hn : ¬ (P.add x).isSome = true := by rw [h.add]; simp
  have hS : x ∉ P.L.S := by rw [h.s]; exact a2
  have hH : x ∉ P.L.H := fun hm => hnt (h.H x hm)
  have hz : 2 ≤ x ∧ x < P.L.z := by rw [ok.lz]; exact a1
  have hmay : P.L.may x = 0 := by unfold FSt.may; rw [if_pos hz, if_neg (by simp [hS, hH])]
  have e1 : dropP P x = ({ P with L := P.L.hold x }, 0) := by unfold dropP; rw [if_neg hb, if_neg hc, if_neg hn, hmay]
  have e2 : P.L.hold x = { P.L with H := addI x P.L.H } := by unfold FSt.hold; rw [if_pos hmay]
  rw [e1]
  have hses := h.ses.drop_ x
  rw [e1] at hses
  have hxH : x ∈ (P.L.hold x).H := by rw [e2]; exact mem_addI.2 (.inl rfl)
  refine ⟨rfl, ⟨hses, by show (P.L.hold x).S = _; rw [e2]; exact h.s, h.ch, h.M, h.add, ?_, fun y hy => ?_⟩, ?_⟩
  · show (P.L.hold x).H.length = _
    rw [e2]
    show (addI x P.L.H).length = _
    unfold addI
    rw [if_neg hH, ins_length, h.n]
  · have hy : y ∈ (P.L.hold x).H := hy
    rw [e2] at hy
    rw [hT]
    rcases mem_addI.1 hy with e | hy
    · rw [e]; exact List.mem_append_right _ (List.mem_singleton.2 rfl)
    · exact List.mem_append_left _ (h.H y hy)
  · have hmay2 : (P.L.hold x).may x = 8 := by
      unfold FSt.may
      have hzz : (P.L.hold x).z = P.L.z := by rw [e2]
      rw [if_pos (by rw [hzz]; exact hz), if_pos (.inr hxH)]
    have e3 : (P.L.hold x).hold x = P.L.hold x := hold_no (by rw [hmay2]; decide)
    unfold dropP
    rw [if_neg hb, if_neg hc, if_neg hn]
    show ({ P with L := (P.L.hold x).hold x }, (P.L.hold x).may x) = _
    rw [e3, hmay2]
end
end pagerFills
end Go.Proofs.YtdjcahhofonclaaGreatDoor
end

section
/-
  The law PagerAgain, walked.
-/
namespace Go.Proofs.YtdjcahhofonclaaGreatDoor.pagerAgain
open Go.ChangeShapes Go.WideShapes Go.ChangeAt Go.RowKit
set_option linter.unusedVariables false
set_option linter.unusedSimpArgs false

/-- Behind a commit and k more. -/
structure More (z T k : Nat) (rt : Int) (l : List Kept) (S : St) (B : PSt) (el : Mt) : Prop where
  ses : Ses S B B el
  fuse : S.fuse = -1
  len : S.pages.length = z
  done : S.done ≤ 4100 + k * 2100
  tx : B.M.txn = k + 2
  root : B.root = rt
  tot : B.L.S.length + B.chain.length = T
  sp : B.L.S.length = T - needN T
  brs : ∀ x ∈ l, Bears B S x
theorem More.next {z T k : Nat} {rt : Int} {l : List Kept} {S : St} {B : PSt} {el : Mt} (h : More z T k rt l S B el) (ok : B.ok S.pages.length) (hl : B.L.ok) (hz : z ≤ 1024) (hk : k ≤ 100) :
    More z T (k + 1) rt l (commitR B S).1 (nextP B) B.M := by
  have ht : B.M.txn + 1 < 18446744073709551616 := by rw [h.tx]; omega
  obtain ⟨c1, c2, c3, c4, c5, c6⟩ := h.ses.commit ok hl ht h.fuse
  have hH : B.L.H = [] := h.ses.hd.bas.H
  have hr := h.ses.roomOk ok hl
  have h1 := settle_len ok hl hr
  have h2 := settleC_len hr
  rw [hH] at h1 h2
  simp only [List.length_nil, Nat.add_zero] at h1 h2
  rw [h.tot] at h1 h2
  have hd := h.done
  refine ⟨c3, c2, c5.trans h.len, by omega, by show B.M.txn + 1 = _; rw [h.tx], h.root, h1, ?_, fun x hx => (h.brs x hx).commit ok (by rw [h.len]; exact hz) c4 c5⟩
  show (settleL B).S.length = _
  omega
set_option maxRecDepth 100000 in
set_option maxHeartbeats 4000000 in
theorem walk_out (w : World) (hF : Fours w) (a t : Int) (A1 : Option Addr) (n1 c1 : Nat) (hs : 20 < n1) (h1 : n1 ≤ maxLen) :
    Calls Tryz.prog 7 #[.int .i64 a, .slice A1 n1 c1, .int .i64 t] w fun e w' => e = .returned (.bool true) ∧ Below w.heap.size w w' := by
  have HLV := kept (fun (W : World) (hb : Below w.heap.size w W) => lives_any W (hF.below hb))
  unfold maxLen at h1
  clear hF
  have hb : decide ((20 : Int) < (n1 : Int)) = true := by simp; omega
  go_enter Tryz.func7, Tryz.ntmps7
  go_wp2_with (first | (go_at_call 8; first | ((with_reducible refine (HLV.out w (Below.refl _ _)).mono ?_); rintro e w1 ⟨rfl, hb1⟩; have HB1 := kept hb1; clear hb1) | ((with_reducible refine (HLV.out _ HB1.out).mono ?_); rintro e w2 ⟨rfl, hb2⟩; have HB2 := kept hb2; clear hb2)))
  go_ret
  exact ⟨rfl, HB1.out.trans (HB2.out.mono HB1.out.size)⟩
set_option maxRecDepth 100000 in
set_option maxHeartbeats 8000000 in
theorem walked_law (w : World) (hF : Fours w) (a t : Int) (A1 : Option Addr) (n1 c1 : Nat) (X1 : Nat → ByteArray) (r1 : RdVals w A1 n1 (fun i => .string (X1 i))) (x1 : ∀ i, i < n1 → (X1 i).size ≤ maxLen) (h1 : n1 ≤ 20) :
    Calls Tryz.prog 7 #[.int .i64 a, .slice A1 n1 c1, .int .i64 t] w fun e w' => e = .returned (.bool true) ∧ Below w.heap.size w w' := by
  have HLV := kept (lives_any w hF)
  have HFW := kept (fun (W : World) (hb : Below w.heap.size w W) => (hF.below hb : Fours W))
  have hb1 : decide ((20 : Int) < (n1 : Int)) = false := by simp; omega
  obtain ⟨r, hr, hat0⟩ := placed7 a 200 (by omega) (by omega)
  have hat : wrap64 ((IntKind.u64.wrap a).tmod 200) = (r : Int) := hat0
  obtain ⟨z, hz⟩ : ∃ z, 8 + r = z := ⟨_, rfl⟩
  have hatz : wrap64 (8 + (r : Int)) = (z : Int) := by rw [IntWalk.wrap64_in _ ⟨by omega, by omega⟩]; omega
  have hz8 : 8 ≤ z ∧ z ≤ 208 := by omega
  have HMD := kept (fun (W : World) (hb : Below w.heap.size w W) => made_any z W (by omega) (by omega) (hF.below hb))
  have HAK1 := kept (fun (W : World) (p : Pgl) (B P : PSt) (S : St) (el : Mt) (h : Rn w W p P S) (hs : Ses S B P el) (ht : P.M.txn + 1 < 18446744073709551616) => addk_any h hs ht hF A1 n1 c1 X1 r1 x1 (by omega))
  obtain ⟨tm, htm, hatt0⟩ := placed7 t 9 (by omega) (by omega)
  have hatt : wrap64 ((IntKind.u64.wrap t).tmod 9) = (tm : Int) := hatt0
  clear hF hat0 hatt0 hz hr r1 x1
  go_enter Tryz.func7, Tryz.ntmps7
  go_wp2_with (first | (go_at_call 8; (with_reducible refine (HLV.out).mono ?_); rintro e w1 ⟨rfl, hb1⟩; have HB1 := kept hb1 ; clear hb1) | (go_at_call 9; (with_reducible refine ((HMD.out _ HB1.out)).mono ?_); rintro e w2 ⟨p0, rfl, h2⟩))
  obtain ⟨f1, f2, f3, f4, f5⟩ := formatted_spec z hz8.1 (by omega)
  have HR2 : Hid (Rn w w2 p0 (baseP z) (formatted z)) := kept ⟨h2.out.1, fun j hj => Nat.le_trans HB1.out.size (h2.out.2.2 j hj), HB1.out.trans (h2.out.2.1.mono HB1.out.size)⟩
  have HSE0 := kept (base_ses z hz8.1 (by omega : z ≤ 1024))
  have HFU := kept f2
  have HLN := kept f3
  have HDN := kept f4
  have HTX : Hid ((baseP z).M.txn = 1) := kept rfl
  have HHH : Hid ((baseP z).L.H = []) := kept rfl
  clear h2 f1 f2 f3 f4 f5 HLV HMD hat hatz
  generalize baseP z = B0 at HR2 HSE0 HTX HHH
  generalize formatted z = S0 at HR2 HSE0 HFU HLN HDN
  generalize meta0 z = el0 at HSE0
  obtain ⟨q0, hq0⟩ : ∃ q, p0.r = q := ⟨_, rfl⟩
  obtain ⟨dq, hdq⟩ : ∃ q, p0.d.r = q := ⟨_, rfl⟩
  have HAD := kept (HAK1.out w2 p0 B0 B0 S0 el0 HR2.out HSE0.out (by rw [HTX.out]; decide))
  have HQ0 := kept hq0
  have HDQ := kept hdq
  rw [hq0] at HAD
  rw [hq0, hdq]
  clear hq0 hdq
  go_wp2_with fail
  with_reducible refine HAD.out.mono ?_
  rintro e w3 ⟨A4, n4, c4, l4, P1, rfl, h3⟩
  obtain ⟨p1, e1, d1, hrn⟩ := HR2.out.step h3.out.1
  have HP1 : Hid (p1.r = q0) := kept (e1.trans HQ0.out)
  have HD1 : Hid (p1.d.r = dq) := kept (by rw [d1]; exact HDQ.out)
  have HRN := kept hrn
  have HAD1 := kept h3.out.2.1
  have HKP3 := kept h3.out.2.2.1
  have HN4 : Hid (n4 ≤ 1000) := kept (by have := h3.out.2.2.2.2; omega)
  clear h3 hrn e1 d1 HAD HR2 HSE0 HAK1 HB1 HQ0 HDQ
  rcases Nat.eq_zero_or_pos n4 with hn4 | hn4
  · subst hn4
    have HRT : Hid ((0 : Int) = 0 ∨ (2 ≤ (0 : Int) ∧ (0 : Int) < (S0.pages.length : Int))) := kept (.inl rfl)
    have HSR := kept (setRoot_any HRN.out.pg (0 : Int))
    have HSS := kept (HAD1.out.ses.root_ HRT.out)
    obtain ⟨P2, hP2⟩ : ∃ P2 : PSt, ({ P1 with root := (0 : Int) } : PSt) = P2 := ⟨_, rfl⟩
    have HE2 : Hid (P2.M.txn = 1 ∧ P2.root = (0 : Int) ∧ P2.L.H = [] ∧ P2.L = P1.L ∧ P2.chain = P1.chain ∧ P2.add = P1.add) := kept (by
      subst hP2
      exact ⟨by show P1.M.txn = 1; rw [HAD1.out.M, HTX.out], rfl, by show P1.L.H = []; rw [HAD1.out.H, HHH.out], rfl, rfl, rfl⟩)
    have HBS : Hid (∀ x ∈ l4, Bears P2 S0 x) := kept (fun x hx => by subst hP2; exact (HAD1.out.new x hx).root_ _)
    rw [hP2, HP1.out] at HSR
    rw [hP2] at HSS
    clear hP2
    go_wp2_with (first | (go_at_call 11; (with_reducible refine (HSR.out).mono ?_); rintro e w4 ⟨rfl, h4⟩; obtain ⟨p4, e4, d4, k4⟩ := HRN.out.step h4.out; have HR4 := kept k4; have HP4 : Hid (p4.r = q0 ∧ p4.d.r = dq) := kept ⟨e4.trans HP1.out, by rw [d4]; exact HD1.out⟩; have HK4 := kept (HKP3.out.turned h4.out.choose_spec.2.2.2.1 (fun b hb hj => HRN.out.pg.not_all hb (by decide) (by decide) (by decide) (by decide) (by decide) hj)); have HCM := kept (commit_ses k4.pg HSS.out HFU.out (by rw [HE2.out.1]; decide) (by have := HDN.out; omega) (HFW.out _ k4.below)); rw [HP4.out.1] at HCM; clear h4 k4 e4 d4) | (go_at_call 13; (with_reducible refine (HCM.out).mono ?_); rintro e w5 ⟨rfl, h5⟩; obtain ⟨p5, e5, d5, k5⟩ := HR4.out.step h5.out; have HR5 := kept k5; have HP5 : Hid (p5.r = q0 ∧ p5.d.r = dq) := kept ⟨e5.trans HP4.out.1, by rw [d5]; exact HP4.out.2⟩; have HK5 := kept (HK4.out.turned h5.out.choose_spec.2.2.2.1 (fun b hb hj => HR4.out.pg.not_all hb (by decide) (by decide) (by decide) (by decide) (by decide) hj)); have HSP := kept (pspare_any k5.pg); rw [HP5.out.1] at HSP; clear h5 k5 e5 d5) | (go_at_call 21; (with_reducible refine (HSP.out).mono ?_); rintro e w6 ⟨A6, c6, rfl, h6⟩; have HR6 := kept (HR5.out.on h6.out.2.1); have HK6 := kept (HK5.out.below h6.out.2.1); have HTN := kept (txn_any HR6.out.pg); rw [HP5.out.1] at HTN; clear h6) | (go_at_call 14; (with_reducible refine (HTN.out).mono ?_); rintro e w7 ⟨rfl, rfl⟩))
    obtain ⟨T, hT⟩ : ∃ T, (nextP P2).L.S.length + (nextP P2).chain.length = T := ⟨_, rfl⟩
    have hsp : (nextP P2).L.S.length = T - needN T ∧ T ≤ 1022 := by
      have hok := HR4.out.pg.ok
      have hlo := HR4.out.pg.lst.1
      have hr := HSS.out.roomOk hok hlo
      have a1 : (nextP P2).L.S.length + (nextP P2).chain.length = _ := settle_len hok hlo hr
      have a2 : (nextP P2).chain.length = _ := settleC_len hr
      have a3 := total_le hok hlo
      rw [← a1, hT] at a2 a3
      have := HLN.out
      omega
    have HMO : Hid (More z T 0 (0 : Int) l4 (commitR P2 S0).1 (nextP P2) B0.M) := kept (by
      obtain ⟨u1, u2, u3, u4, u5, u6⟩ := HSS.out.commit HR4.out.pg.ok HR4.out.pg.lst.1 (by rw [HE2.out.1]; decide) HFU.out
      exact ⟨u3, u2, u5.trans HLN.out, by have := HDN.out; omega, by show P2.M.txn + 1 = 2; rw [HE2.out.1], HE2.out.2.1, hT, hsp.1, fun x hx => (HBS.out x hx).commit HR4.out.pg.ok (by rw [HLN.out]; omega) u4 u5⟩)
    have htx2 : (nextP P2).M.txn = 2 := by show P2.M.txn + 1 = 2; rw [HE2.out.1]
    obtain ⟨n0, hn0⟩ : ∃ n0, T - needN T = n0 := ⟨_, rfl⟩
    have hn0b : n0 ≤ 1022 := by omega
    have HN0 := kept hn0
    rw [hsp.1, hn0, htx2, show ((2 : Nat) : Int) = 2 from rfl]
    clear hT hsp htx2 hn0 HSR HSS HE2 HBS HCM HSP HTN HR4 HR5 HK4 HK5 HP4 HRN HAD1 HKP3 HP1 HD1 HTX HHH HFU HLN HDN
    generalize (commitR P2 S0).1 = S1 at HR6 HMO
    generalize nextP P2 = Q at HR6 HMO
    generalize B0.M = el1 at HMO
    rw [← HP5.out.1]
    have HD5 : Hid (p5.d.r = dq) := kept HP5.out.2
    clear HP5
    simp only [hatt]
    clear hatt
    generalize (IntKind.u64.wrap t).tmod 9 = r3
    generalize IntKind.u64.wrap t = r4
    go_loopw [8, 61] (fun pv i wr => ∃ (k : Nat) (B : PSt) (S : St) (el : Mt) (p : Pgl), k ≤ tm ∧ i = .int .i64 (k : Int) ∧ pv = .pointer (some ⟨p.r, 0, none⟩) ∧ p.d.r = dq ∧ Hid (Rn w wr p B S ∧ OwK wr A4 0 c4 l4) ∧ Hid (More z T k (0 : Int) l4 S B el)) (fun _ i _ => tm - (intOf i).toNat)
    case atStart => exact ⟨0, Q, S1, el1, p5, Nat.zero_le _, rfl, rfl, HD5.out, kept ⟨HR6.out, HK6.out⟩, HMO⟩
    case round =>
      obtain ⟨k, B, S, el, p, hk, rfl, rfl, hpd, HR, HM⟩ := hrel
      clear HR6 HK6 HMO HD5
      by_cases hlt : k < tm
      · have htn : B.M.txn + 1 < 18446744073709551616 := by rw [HM.out.tx]; omega
        have HCM := kept (commit_ses HR.out.1.pg HM.out.ses HM.out.fuse htn (by have := HM.out.done; omega) (HFW.out _ HR.out.1.below))
        have HMN := kept (HM.out.next HR.out.1.pg.ok HR.out.1.pg.lst.1 (by omega) (by omega))
        generalize (commitR B S).1 = SN at HCM HMN
        generalize nextP B = BN at HCM HMN
        generalize B.M = eln at HMN
        clear htn
        go_wp2_with (first | (go_at_call 13; (with_reducible refine (HCM.out).mono ?_); rintro e w8 ⟨rfl, h8⟩; obtain ⟨p8, e8, d8, k8⟩ := HR.out.1.step h8.out; have HR8 := kept k8; have HP8 : Hid (p8.r = p.r ∧ p8.d.r = dq) := kept ⟨e8, by rw [d8]; exact hpd⟩; have HK8 := kept (HR.out.2.turned h8.out.choose_spec.2.2.2.1 (fun b hb hj => HR.out.1.pg.not_all hb (by decide) (by decide) (by decide) (by decide) (by decide) hj)); have HTN := kept (txn_any k8.pg); rw [HP8.out.1, HMN.out.tx] at HTN; have HOP := kept (open_ok p8.d SN w8 k8.pg.dsk (by rw [HMN.out.fuse]; decide) (HFW.out _ k8.below) HMN.out.ses.hd.opens.1); rw [HP8.out.2, HMN.out.ses.hd.opens.2] at HOP; clear h8 k8 e8 d8) | (go_at_call 14; (with_reducible refine (HTN.out).mono ?_); rintro e w9 ⟨rfl, rfl⟩) | (go_at_call 18; (with_reducible refine (HOP.out).mono ?_); rintro e w10 ⟨q, rfl, h10⟩))
        have HQR : Hid (Rn w w10 q BN SN ∧ q.d.r = dq) := kept ⟨⟨h10.out.2.1, fun j hj => by
            rcases hj with hj | hj
            · exact Nat.le_trans HR8.out.below.size (h10.out.2.2.2 j hj)
            · rw [h10.out.1] at hj; exact HR8.out.pn j (.inr hj), HR8.out.below.trans (h10.out.2.2.1.mono HR8.out.below.size)⟩, by rw [h10.out.1]; exact HP8.out.2⟩
        have HR10 := kept (HR8.out.on h10.out.2.2.1)
        have HK10 := kept (HK8.out.below h10.out.2.2.1)
        have HRT := kept (root_any HQR.out.1.pg)
        rw [HMN.out.root] at HRT
        have HTQ := kept (txn_any HQR.out.1.pg)
        have HTP := kept (txn_any HR10.out.pg)
        rw [HP8.out.1] at HTP
        rw [HMN.out.tx] at HTQ HTP
        have HSH := kept (showsk_any HQR.out.1.pg (by rw [HMN.out.fuse]; decide) (HFW.out _ HQR.out.1.below) A4 0 c4 l4 HK10.out.reads HN4.out HMN.out.brs)
        have hsl : BN.L.S.length = n0 := HMN.out.sp.trans HN0.out
        have HSL := kept hsl
        clear h10 HCM HTN HOP hsl
        go_wp2_with (first | (go_at_call 12; (with_reducible refine (HRT.out).mono ?_); rintro e w11 ⟨rfl, rfl⟩) | (go_at_call 14; first | ((with_reducible refine HTQ.out.mono ?_); rintro e w12 ⟨rfl, rfl⟩) | ((with_reducible refine HTP.out.mono ?_); rintro e w13 ⟨rfl, rfl⟩)) | (go_at_call 19; (with_reducible refine (HSH.out).mono ?_); rintro e w14 ⟨rfl, hb14⟩; have HQ14 := kept (HQR.out.1.on hb14); have HR14 := kept (HR10.out.on hb14); have HK14 := kept (HK10.out.below hb14); have HSQ := kept (pspare_any HQ14.out.pg); rw [HSL.out] at HSQ; clear hb14) | (go_at_call 21; first | ((with_reducible refine HSQ.out.mono ?_); rintro e w15 ⟨E1, ec1, rfl, h15⟩; have HQ15 := kept (HQ14.out.on h15.out.2.1); have HR15 := kept (HR14.out.on h15.out.2.1); have HK15 := kept (HK14.out.below h15.out.2.1); have HO15 := kept h15.out.1; have HSP15 := kept (pspare_any HR15.out.pg); rw [HSL.out, HP8.out.1] at HSP15; rw [HSL.out] at HO15; clear h15) | ((with_reducible refine HSP15.out.mono ?_); rintro e w16 ⟨E2, ec2, rfl, h16⟩; have HQ16 := kept (HQ15.out.on h16.out.2.1); have HR16 := kept (HR15.out.on h16.out.2.1); have HK16 := kept (HK15.out.below h16.out.2.1); have hr2 := h16.out.1.reads; rw [HSL.out] at hr2; have HSM := kept (same_true E1 E2 n0 ec1 ec2 BN.L.S w16 (HO15.out.below h16.out.2.1).reads hr2 (by omega)); clear h16 hr2) | ((with_reducible refine HSP17.out.mono ?_); rintro e w18 ⟨E3, ec3, rfl, h18⟩; have HQ18 := kept (HQ17.out.on h18.out.2.1); have HK18 := kept (HK17.out.below h18.out.2.1); clear h18)) | (go_at_call 23; (with_reducible refine (HSM.out).mono ?_); rintro e w17 ⟨rfl, h17⟩; obtain ⟨nq, rfl⟩ := h17.out; have HQ17 := kept (HQ16.out.on (below_dn (Below.refl _ w16) nq)); have HR17 := kept (HR16.out.on (below_dn (Below.refl _ w16) nq)); have HK17 := kept (HK16.out.below (below_dn (Below.refl _ w16) nq)); have HSP17 := kept (pspare_any HR17.out.pg); rw [HSL.out, HP8.out.1] at HSP17; clear h17))
        go_roundw
        case rel => exact ⟨k + 1, BN, SN, eln, q, by omega, by go_num, rfl, HQR.out.2, kept ⟨HQ18.out, HK18.out⟩, HMN⟩
        case measure => simp [intOf]; omega
      · obtain rfl : k = tm := by omega
        have HSH := kept (showsk_any HR.out.1.pg (by rw [HM.out.fuse]; decide) (HFW.out _ HR.out.1.below) A4 0 c4 l4 HR.out.2.reads HN4.out HM.out.brs)
        go_wp2_with (first | (go_at_call 19; (with_reducible refine (HSH.out).mono ?_); rintro e w11 ⟨rfl, hb11⟩; have HB11 := kept hb11; clear hb11))
        go_ret
        exact ⟨rfl, HR.out.1.below.trans (HB11.out.mono HR.out.1.below.size)⟩
  · obtain ⟨g4, hg4⟩ := HKP3.out.head hn4
    subst hg4
    have hll := HKP3.out.1
    obtain ⟨bb, o, he, k0, k1⟩ := HKP3.out.reads.at_ (k := 0) hn4 (by omega)
    cases he
    have hbr := (HAD1.out.new (l4[0]'(by omega)) (List.getElem_mem _)).away.1
    obtain ⟨rt, hrt⟩ : ∃ rt, (l4[0]'(by omega)).1 = rt := ⟨_, rfl⟩
    rw [hrt] at k0 hbr
    have HBR0 : Hid (2 ≤ rt ∧ rt < (S0.pages.length : Int)) := kept hbr
    clear hbr hrt k1
    have HRT : Hid (rt = 0 ∨ (2 ≤ rt ∧ rt < (S0.pages.length : Int))) := kept (.inr HBR0.out)
    have HSR := kept (setRoot_any HRN.out.pg rt)
    have HSS := kept (HAD1.out.ses.root_ HRT.out)
    obtain ⟨P2, hP2⟩ : ∃ P2 : PSt, ({ P1 with root := rt } : PSt) = P2 := ⟨_, rfl⟩
    have HE2 : Hid (P2.M.txn = 1 ∧ P2.root = rt ∧ P2.L.H = [] ∧ P2.L = P1.L ∧ P2.chain = P1.chain ∧ P2.add = P1.add) := kept (by
      subst hP2
      exact ⟨by show P1.M.txn = 1; rw [HAD1.out.M, HTX.out], rfl, by show P1.L.H = []; rw [HAD1.out.H, HHH.out], rfl, rfl, rfl⟩)
    have HBS : Hid (∀ x ∈ l4, Bears P2 S0 x) := kept (fun x hx => by subst hP2; exact (HAD1.out.new x hx).root_ _)
    rw [hP2, HP1.out] at HSR
    rw [hP2] at HSS
    clear hP2
    go_wp2_with (first | (go_at_call 11; (with_reducible refine (HSR.out).mono ?_); rintro e w4 ⟨rfl, h4⟩; obtain ⟨p4, e4, d4, k4⟩ := HRN.out.step h4.out; have HR4 := kept k4; have HP4 : Hid (p4.r = q0 ∧ p4.d.r = dq) := kept ⟨e4.trans HP1.out, by rw [d4]; exact HD1.out⟩; have HK4 := kept (HKP3.out.turned h4.out.choose_spec.2.2.2.1 (fun b hb hj => HRN.out.pg.not_all hb (by decide) (by decide) (by decide) (by decide) (by decide) hj)); have HCM := kept (commit_ses k4.pg HSS.out HFU.out (by rw [HE2.out.1]; decide) (by have := HDN.out; omega) (HFW.out _ k4.below)); rw [HP4.out.1] at HCM; clear h4 k4 e4 d4) | (go_at_call 13; (with_reducible refine (HCM.out).mono ?_); rintro e w5 ⟨rfl, h5⟩; obtain ⟨p5, e5, d5, k5⟩ := HR4.out.step h5.out; have HR5 := kept k5; have HP5 : Hid (p5.r = q0 ∧ p5.d.r = dq) := kept ⟨e5.trans HP4.out.1, by rw [d5]; exact HP4.out.2⟩; have HK5 := kept (HK4.out.turned h5.out.choose_spec.2.2.2.1 (fun b hb hj => HR4.out.pg.not_all hb (by decide) (by decide) (by decide) (by decide) (by decide) hj)); have HSP := kept (pspare_any k5.pg); rw [HP5.out.1] at HSP; clear h5 k5 e5 d5) | (go_at_call 21; (with_reducible refine (HSP.out).mono ?_); rintro e w6 ⟨A6, c6, rfl, h6⟩; have HR6 := kept (HR5.out.on h6.out.2.1); have HK6 := kept (HK5.out.below h6.out.2.1); have HTN := kept (txn_any HR6.out.pg); rw [HP5.out.1] at HTN; clear h6) | (go_at_call 14; (with_reducible refine (HTN.out).mono ?_); rintro e w7 ⟨rfl, rfl⟩))
    obtain ⟨T, hT⟩ : ∃ T, (nextP P2).L.S.length + (nextP P2).chain.length = T := ⟨_, rfl⟩
    have hsp : (nextP P2).L.S.length = T - needN T ∧ T ≤ 1022 := by
      have hok := HR4.out.pg.ok
      have hlo := HR4.out.pg.lst.1
      have hr := HSS.out.roomOk hok hlo
      have a1 : (nextP P2).L.S.length + (nextP P2).chain.length = _ := settle_len hok hlo hr
      have a2 : (nextP P2).chain.length = _ := settleC_len hr
      have a3 := total_le hok hlo
      rw [← a1, hT] at a2 a3
      have := HLN.out
      omega
    have HMO : Hid (More z T 0 rt l4 (commitR P2 S0).1 (nextP P2) B0.M) := kept (by
      obtain ⟨u1, u2, u3, u4, u5, u6⟩ := HSS.out.commit HR4.out.pg.ok HR4.out.pg.lst.1 (by rw [HE2.out.1]; decide) HFU.out
      exact ⟨u3, u2, u5.trans HLN.out, by have := HDN.out; omega, by show P2.M.txn + 1 = 2; rw [HE2.out.1], HE2.out.2.1, hT, hsp.1, fun x hx => (HBS.out x hx).commit HR4.out.pg.ok (by rw [HLN.out]; omega) u4 u5⟩)
    have htx2 : (nextP P2).M.txn = 2 := by show P2.M.txn + 1 = 2; rw [HE2.out.1]
    obtain ⟨n0, hn0⟩ : ∃ n0, T - needN T = n0 := ⟨_, rfl⟩
    have hn0b : n0 ≤ 1022 := by omega
    have HN0 := kept hn0
    rw [hsp.1, hn0, htx2, show ((2 : Nat) : Int) = 2 from rfl]
    clear hT hsp htx2 hn0 HSR HSS HE2 HBS HCM HSP HTN HR4 HR5 HK4 HK5 HP4 HRN HAD1 HKP3 HP1 HD1 HTX HHH HFU HLN HDN
    generalize (commitR P2 S0).1 = S1 at HR6 HMO
    generalize nextP P2 = Q at HR6 HMO
    generalize B0.M = el1 at HMO
    rw [← HP5.out.1]
    have HD5 : Hid (p5.d.r = dq) := kept HP5.out.2
    clear HP5
    simp only [hatt]
    clear hatt
    generalize (IntKind.u64.wrap t).tmod 9 = r3
    generalize IntKind.u64.wrap t = r4
    go_loopw [8, 61] (fun pv i wr => ∃ (k : Nat) (B : PSt) (S : St) (el : Mt) (p : Pgl), k ≤ tm ∧ i = .int .i64 (k : Int) ∧ pv = .pointer (some ⟨p.r, 0, none⟩) ∧ p.d.r = dq ∧ Hid (Rn w wr p B S ∧ OwK wr (some ⟨g4, 0, none⟩) n4 c4 l4) ∧ Hid (More z T k rt l4 S B el)) (fun _ i _ => tm - (intOf i).toNat)
    case atStart => exact ⟨0, Q, S1, el1, p5, Nat.zero_le _, rfl, rfl, HD5.out, kept ⟨HR6.out, HK6.out⟩, HMO⟩
    case round =>
      obtain ⟨k, B, S, el, p, hk, rfl, rfl, hpd, HR, HM⟩ := hrel
      clear HR6 HK6 HMO HD5
      by_cases hlt : k < tm
      · have htn : B.M.txn + 1 < 18446744073709551616 := by rw [HM.out.tx]; omega
        have HCM := kept (commit_ses HR.out.1.pg HM.out.ses HM.out.fuse htn (by have := HM.out.done; omega) (HFW.out _ HR.out.1.below))
        have HMN := kept (HM.out.next HR.out.1.pg.ok HR.out.1.pg.lst.1 (by omega) (by omega))
        generalize (commitR B S).1 = SN at HCM HMN
        generalize nextP B = BN at HCM HMN
        generalize B.M = eln at HMN
        clear htn
        go_wp2_with (first | (go_at_call 13; (with_reducible refine (HCM.out).mono ?_); rintro e w8 ⟨rfl, h8⟩; obtain ⟨p8, e8, d8, k8⟩ := HR.out.1.step h8.out; have HR8 := kept k8; have HP8 : Hid (p8.r = p.r ∧ p8.d.r = dq) := kept ⟨e8, by rw [d8]; exact hpd⟩; have HK8 := kept (HR.out.2.turned h8.out.choose_spec.2.2.2.1 (fun b hb hj => HR.out.1.pg.not_all hb (by decide) (by decide) (by decide) (by decide) (by decide) hj)); have HTN := kept (txn_any k8.pg); rw [HP8.out.1, HMN.out.tx] at HTN; have HOP := kept (open_ok p8.d SN w8 k8.pg.dsk (by rw [HMN.out.fuse]; decide) (HFW.out _ k8.below) HMN.out.ses.hd.opens.1); rw [HP8.out.2, HMN.out.ses.hd.opens.2] at HOP; clear h8 k8 e8 d8) | (go_at_call 14; (with_reducible refine (HTN.out).mono ?_); rintro e w9 ⟨rfl, rfl⟩) | (go_at_call 18; (with_reducible refine (HOP.out).mono ?_); rintro e w10 ⟨q, rfl, h10⟩))
        have HQR : Hid (Rn w w10 q BN SN ∧ q.d.r = dq) := kept ⟨⟨h10.out.2.1, fun j hj => by
            rcases hj with hj | hj
            · exact Nat.le_trans HR8.out.below.size (h10.out.2.2.2 j hj)
            · rw [h10.out.1] at hj; exact HR8.out.pn j (.inr hj), HR8.out.below.trans (h10.out.2.2.1.mono HR8.out.below.size)⟩, by rw [h10.out.1]; exact HP8.out.2⟩
        have HR10 := kept (HR8.out.on h10.out.2.2.1)
        have HK10 := kept (HK8.out.below h10.out.2.2.1)
        have HRT := kept (root_any HQR.out.1.pg)
        rw [HMN.out.root] at HRT
        have HTQ := kept (txn_any HQR.out.1.pg)
        have HTP := kept (txn_any HR10.out.pg)
        rw [HP8.out.1] at HTP
        rw [HMN.out.tx] at HTQ HTP
        have HSH := kept (showsk_any HQR.out.1.pg (by rw [HMN.out.fuse]; decide) (HFW.out _ HQR.out.1.below) (some ⟨g4, 0, none⟩) n4 c4 l4 HK10.out.reads HN4.out HMN.out.brs)
        have hsl : BN.L.S.length = n0 := HMN.out.sp.trans HN0.out
        have HSL := kept hsl
        clear h10 HCM HTN HOP hsl
        go_wp2_with (first | (go_at_call 12; (with_reducible refine (HRT.out).mono ?_); rintro e w11 ⟨rfl, rfl⟩) | (go_at_call 14; first | ((with_reducible refine HTQ.out.mono ?_); rintro e w12 ⟨rfl, rfl⟩) | ((with_reducible refine HTP.out.mono ?_); rintro e w13 ⟨rfl, rfl⟩)) | (go_at_call 19; (with_reducible refine (HSH.out).mono ?_); rintro e w14 ⟨rfl, hb14⟩; have HQ14 := kept (HQR.out.1.on hb14); have HR14 := kept (HR10.out.on hb14); have HK14 := kept (HK10.out.below hb14); have HSQ := kept (pspare_any HQ14.out.pg); rw [HSL.out] at HSQ; clear hb14) | (go_at_call 21; first | ((with_reducible refine HSQ.out.mono ?_); rintro e w15 ⟨E1, ec1, rfl, h15⟩; have HQ15 := kept (HQ14.out.on h15.out.2.1); have HR15 := kept (HR14.out.on h15.out.2.1); have HK15 := kept (HK14.out.below h15.out.2.1); have HO15 := kept h15.out.1; have HSP15 := kept (pspare_any HR15.out.pg); rw [HSL.out, HP8.out.1] at HSP15; rw [HSL.out] at HO15; clear h15) | ((with_reducible refine HSP15.out.mono ?_); rintro e w16 ⟨E2, ec2, rfl, h16⟩; have HQ16 := kept (HQ15.out.on h16.out.2.1); have HR16 := kept (HR15.out.on h16.out.2.1); have HK16 := kept (HK15.out.below h16.out.2.1); have hr2 := h16.out.1.reads; rw [HSL.out] at hr2; have HSM := kept (same_true E1 E2 n0 ec1 ec2 BN.L.S w16 (HO15.out.below h16.out.2.1).reads hr2 (by omega)); clear h16 hr2) | ((with_reducible refine HSP17.out.mono ?_); rintro e w18 ⟨E3, ec3, rfl, h18⟩; have HQ18 := kept (HQ17.out.on h18.out.2.1); have HK18 := kept (HK17.out.below h18.out.2.1); clear h18)) | (go_at_call 23; (with_reducible refine (HSM.out).mono ?_); rintro e w17 ⟨rfl, h17⟩; obtain ⟨nq, rfl⟩ := h17.out; have HQ17 := kept (HQ16.out.on (below_dn (Below.refl _ w16) nq)); have HR17 := kept (HR16.out.on (below_dn (Below.refl _ w16) nq)); have HK17 := kept (HK16.out.below (below_dn (Below.refl _ w16) nq)); have HSP17 := kept (pspare_any HR17.out.pg); rw [HSL.out, HP8.out.1] at HSP17; clear h17))
        go_roundw
        case rel => exact ⟨k + 1, BN, SN, eln, q, by omega, by go_num, rfl, HQR.out.2, kept ⟨HQ18.out, HK18.out⟩, HMN⟩
        case measure => simp [intOf]; omega
      · obtain rfl : k = tm := by omega
        have HSH := kept (showsk_any HR.out.1.pg (by rw [HM.out.fuse]; decide) (HFW.out _ HR.out.1.below) (some ⟨g4, 0, none⟩) n4 c4 l4 HR.out.2.reads HN4.out HM.out.brs)
        go_wp2_with (first | (go_at_call 19; (with_reducible refine (HSH.out).mono ?_); rintro e w11 ⟨rfl, hb11⟩; have HB11 := kept hb11; clear hb11))
        go_ret
        exact ⟨rfl, HR.out.1.below.trans (HB11.out.mono HR.out.1.below.size)⟩
theorem walk (w : World) (hF : Fours w) (a : Int) (ha : (Lit.int .i64 a).wf = true) (A1 : Option Addr) (n1 c1 : Nat) (nc1 : n1 ≤ c1) (cm1 : c1 ≤ maxLen) (X1 : Nat → ByteArray) (r1 : RdVals w A1 n1 (fun i => .string (X1 i)) ∧ ∀ i, i < n1 → (X1 i).size ≤ maxLen) (t : Int) (ht : (Lit.int .i64 t).wf = true) :
    Calls Tryz.prog 7 #[.int .i64 a, .slice A1 n1 c1, .int .i64 t] w fun e w' => e = .returned (.bool true) ∧ Below w.heap.size w w' := by
  by_cases h : n1 ≤ 20
  · exact walked_law w hF a t A1 n1 c1 X1 r1.1 r1.2 h
  · exact walk_out w hF a t A1 n1 c1 (by omega) (by omega)
end Go.Proofs.YtdjcahhofonclaaGreatDoor.pagerAgain
end
