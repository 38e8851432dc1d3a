/-
  What terrierlaw03.Filled and lives answer.
-/
import Derived.Test.YtfmljiidgaoihaaDr
import Derived.Test.YtfmljiidgaoihaaPut
namespace Go.Proofs.Ytfmljiidgaoihaa
open Go.ChangeShapes Go.WideShapes Go.ChangeAt Go.RowKit
set_option linter.unusedVariables false

def fill (c : Int) : List UInt8 := List.replicate 256 (UInt8.ofNat c.toNat)
theorem fill_length (c : Int) : (fill c).length = 256 := List.length_replicate ..
theorem fill_cells (c : Int) (h0 : 0 ≤ c) (h1 : c ≤ 255) : cellsOf (fill c) = List.replicate 256 (.int .u8 c) := by
  unfold cellsOf fill
  rw [List.map_replicate]
  congr 1
  unfold byteV
  rw [UInt8.toNat_ofNat']
  congr 1
  omega
/-- A row under way. -/
def part3 (c : Int) (k : Nat) : List Value := List.replicate k (.int .u8 c) ++ List.replicate (256 - k) (.int .u8 0)
theorem part3_at (c : Int) {k : Nat} (h : k < 256) : (part3 c k)[k]? = some (.int .u8 0) := by
  unfold part3
  rw [List.getElem?_append_right (by rw [List.length_replicate]; exact Nat.le_refl _), List.length_replicate, Nat.sub_self, List.getElem?_replicate, if_pos (by omega)]
theorem part3_set (c : Int) {k : Nat} (h : k < 256) : (part3 c k).set k (.int .u8 c) = part3 c (k + 1) := by
  have e : 256 - k = (256 - (k + 1)) + 1 := by omega
  unfold part3
  rw [List.set_append, if_neg (by rw [List.length_replicate]; omega), List.length_replicate, Nat.sub_self, e, List.replicate_succ, List.set_cons_zero, List.replicate_succ', List.append_assoc]
  rfl
theorem make_bytes (w : World) : (Instr.makeSlice 26 (.int .i64 256) (.int .i64 256)).run Try.prog w = .ok (.slice (some ⟨w.heap.size, 0, none⟩) 256 256) (w.alloc (.cells (List.replicate 256 (.int .u8 0)).toArray 5)) := by
  obtain ⟨i, hi, hz, hsz, hby⟩ := info_parts (show (Try.prog.info? 5).map (fun i => (i.zero, i.size, i.bytes)) = some (some (.int .u8 0), 1, 1) by kernel_rfl)
  have hmk := run_make (P := Try.prog) w 26 5 i (.int .u8 0) Try.underlying26 hi hz .i64 .i64 256 256 (by omega) (by omega) (by rw [hby]; omega) (by omega)
  rw [hsz] at hmk
  have e : madeCells (Value.int .u8 0).cells ((256 : Int).toNat * 1) = (List.replicate 256 (.int .u8 0)).toArray := by
    apply Array.ext
    · rw [size_madeCells, List.size_toArray, List.length_replicate]; rfl
    · intro j h1 h2
      have e1 : (List.replicate 256 (Value.int .u8 0)).toArray[j] = .int .u8 0 := by simp only [List.getElem_toArray, List.getElem_replicate]
      rw [e1]
      simp [madeCells, Value.cells, Nat.mod_one]
  rw [e] at hmk
  exact hmk
set_option maxRecDepth 100000 in
theorem filled_any (c : Int) (w : World) (h0 : 0 ≤ c) (h1 : c ≤ 255) :
    Calls Try.prog 16 #[.int .u8 c] w fun e w' => ∃ b, e = .returned (.slice (some ⟨b, 0, none⟩) 256 256) ∧ Blk w' b 5 (cellsOf (fill c)) ∧ w.heap.size ≤ b ∧ Below w.heap.size w w' := by
  have hmk := make_bytes w
  have HB0 : Hid (Blk (w.alloc (.cells (List.replicate 256 (.int .u8 0)).toArray 5)) w.heap.size 5 (part3 c 0) ∧ Below w.heap.size w (w.alloc (.cells (List.replicate 256 (.int .u8 0)).toArray 5))) :=
    kept ⟨by have := Blk.new w 5 (List.replicate 256 (.int .u8 0)).toArray; exact this, (Below.refl _ w).alloc (Nat.le_refl _) _⟩
  have HFC := kept (fill_cells c h0 h1)
  generalize (w.alloc (.cells (List.replicate 256 (.int .u8 0)).toArray 5)) = w0 at hmk HB0
  generalize hb : w.heap.size = b at hmk HB0 ⊢
  have HBE := kept hb
  clear hb
  go_enter Try.func16, Try.ntmps16
  go_wp2
  go_loopw [8] (fun i wr => ∃ k : Nat, k ≤ 256 ∧ i = .int .i64 (k : Int) ∧ Hid (Blk wr b 5 (part3 c k) ∧ Below b w wr)) (fun i _ => 256 - (intOf i).toNat)
  case atStart => exact ⟨0, by omega, rfl, HB0⟩
  case round =>
    obtain ⟨k, hk, rfl, HR⟩ := hrel
    by_cases hlt : k < 256
    · have hc : wr.cell? ⟨b, k, none⟩ = some (.int .u8 0) := by rw [HR.out.1.cell]; exact part3_at c hlt
      have hf : wr.frozen? ⟨b, k, none⟩ = false := HR.out.1.frozen k
      have HN : Hid (Blk (wr.setCell ⟨b, k, none⟩ (.int .u8 c)) b 5 (part3 c (k + 1)) ∧ Below b w (wr.setCell ⟨b, k, none⟩ (.int .u8 c))) := kept ⟨by rw [← part3_set c hlt]; exact HR.out.1.set_ k _, HR.out.2.setCell (Nat.le_refl _) _⟩
      go_wp2
      go_roundw
      case rel => exact ⟨k + 1, by omega, by go_num, HN⟩
      case measure => simp [intOf]; omega
    · obtain rfl : k = 256 := by omega
      go_wp2
      go_ret
      refine ⟨b, rfl, ?_, Nat.le_refl _, HR.out.2⟩
      rw [HFC.out]
      have := HR.out.1
      unfold part3 at this
      rwa [Nat.sub_self, List.replicate_zero, List.append_nil] at this
theorem new8 (w : World) : Calls Try.prog 10 #[.int .i64 8] w fun e w' => ∃ d : Dk, e = .returned (.pointer (some ⟨d.r, 0, none⟩)) ∧ Dsk w' d (fresh 8) ∧ (∀ i, d.own i → w.heap.size ≤ i) ∧ Below w.heap.size w w' := new_any 8 w (by omega) (by omega)
theorem new16 (w : World) : Calls Try.prog 10 #[.int .i64 16] w fun e w' => ∃ d : Dk, e = .returned (.pointer (some ⟨d.r, 0, none⟩)) ∧ Dsk w' d (fresh 16) ∧ (∀ i, d.own i → w.heap.size ≤ i) ∧ Below w.heap.size w w' := new_any 16 w (by omega) (by omega)
theorem new32 (w : World) : Calls Try.prog 10 #[.int .i64 32] w fun e w' => ∃ d : Dk, e = .returned (.pointer (some ⟨d.r, 0, none⟩)) ∧ Dsk w' d (fresh 32) ∧ (∀ i, d.own i → w.heap.size ≤ i) ∧ Below w.heap.size w w' := new_any 32 w (by omega) (by omega)
theorem Blk.rd {w : World} {b : Nat} {t : TypeId} {xs : List UInt8} (h : Blk w b t (cellsOf xs)) {n : Nat} (hl : xs.length = n) : Rd w (some ⟨b, 0, none⟩) n xs := by
  refine ⟨hl, fun _ => ⟨_, rfl, fun j hj => ?_⟩⟩
  rw [Addr.add_mid, Nat.zero_add, h.cell, cellsOf_get xs j hj]
theorem fresh_len (k : Nat) : (fresh k).pages.length = k := List.length_replicate ..
theorem write_page_same (S : St) (p : Int) (xs : List UInt8) : (S.write p xs).page p = xs := by simp [St.write, St.count, St.page]
theorem write_pages (S : St) (p : Int) (xs : List UInt8) : (S.write p xs).pages = S.pages := rfl
theorem write_done (S : St) (p : Int) (xs : List UInt8) : (S.write p xs).done = S.done + 1 := rfl
theorem write_fuse (S : St) (p : Int) (xs : List UInt8) (h : S.fuse = -1) : (S.write p xs).fuse = -1 := by simp [St.write, St.count, h]
theorem kp_nil (w : World) : Kp w none 0 [] := ⟨rfl, (fun q hq => by cases hq), .inl rfl⟩
theorem crash_len (S : St) (l : List (Int × Int)) : (S.crash l).pages.length = S.pages.length := by
  show (S.laidAll (S.torn l)).length = S.pages.length
  exact laid_length S _ _
theorem sync_len (S : St) : S.sync.pages.length = S.pages.length := by
  show (S.laidAll (fun i => S.page (i : Int))).length = S.pages.length
  exact laid_length S _ _
def lived : St := (fresh 8).write 3 (fill 1)
theorem lived_facts : lived.pages.length = 8 ∧ lived.page 3 = fill 1 ∧ lived.done = 1 ∧ lived.fuse = -1 := ⟨by unfold lived; rw [write_pages, fresh_len], write_page_same _ _ _, rfl, write_fuse _ _ _ rfl⟩
theorem lives_any (w : World) : Calls Try.prog 11 #[] w fun e w' => e = .returned (.bool true) ∧ Below w.heap.size w w' := by
  have HL : Hid (lived.pages.length = 8 ∧ lived.page 3 = fill 1 ∧ lived.done = 1 ∧ lived.fuse = -1) := kept lived_facts
  go_enter Try.func11, Try.ntmps11
  go_wp2_with (first | (go_at_call 10; (with_reducible refine (new8 _).mono ?_); rintro e w1 ⟨d, rfl, hd1, hn1, hb1⟩; have HD1 := kept hd1; have HN1 := kept hn1; have HB1 := kept hb1; clear hd1 hn1 hb1))
  go_wp2_with (first | (go_at_call 16; (with_reducible refine (filled_any 1 _ (by omega) (by omega)).mono ?_); rintro e w2 ⟨b, rfl, hk2, hn2, hb2⟩; have HK2 := kept hk2; have HB2 := kept hb2; clear hk2 hn2 hb2))
  have HW := kept (write_ok d (fresh 8) 3 (some ⟨b, 0, none⟩) 256 (fill 1) w2 (HD1.out.below HB2.out) (by simp [fresh]) (by omega) (by rw [fresh_len]; omega) (HK2.out.rd (fill_length 1)) (by simp [fresh]))
  go_wp2_with (first | (go_at_call 15; (with_reducible refine (HW.out).mono ?_); rintro e w3 ⟨rfl, h3⟩))
  have HD3 : Hid (Dsk w3 d lived) := kept h3.out.1
  have HB3 : Hid (Below w.heap.size w w3) := kept (Turned.only_new (HB1.out.trans (HB2.out.mono HB1.out.size)) h3.out.2 (Nat.le_trans HB1.out.size HB2.out.size) HN1.out)
  have HR := kept (read_ok d lived 3 w3 HD3.out (by rw [HL.out.2.2.2]; omega) (by omega) (by rw [HL.out.1]; omega))
  clear h3
  go_wp2_with (first | (go_at_call 12; (with_reducible refine (HR.out).mono ?_); rintro e w4 ⟨b4, rfl, hk4, hn4, hb4⟩; have HK4 := kept hk4; have HB4 := kept hb4; clear hk4 hn4 hb4))
  go_wp2_with (first | (go_at_call 16; (with_reducible refine (filled_any 1 _ (by omega) (by omega)).mono ?_); rintro e w5 ⟨b5, rfl, hk5, hn5, hb5⟩; have HK5 := kept hk5; have HB5 := kept hb5; clear hk5 hn5 hb5))
  have HS := kept (same_any (some ⟨b4, 0, none⟩) (some ⟨b5, 0, none⟩) 256 256 256 256 (fill 1) (fill 1) w5 ((Blk.rd (by rw [← HL.out.2.1]; exact HK4.out) (fill_length 1)).below HB5.out) (HK5.out.rd (fill_length 1)) true (by simp))
  go_wp2_with (first | (go_at_call 25; (with_reducible refine (HS.out).mono ?_); rintro e w' ⟨rfl, rfl⟩))
  have HDN := kept (show Calls Try.prog 19 #[.pointer (some ⟨d.r, 0, none⟩)] w5 fun e w' => e = .returned (.int .i64 1) ∧ w5 = w' from done_any d lived w5 ((HD3.out.below HB4.out).below HB5.out))
  go_wp2_with (first | (go_at_call 19; (with_reducible refine (HDN.out).mono ?_); rintro e w' ⟨rfl, rfl⟩))
  go_ret
  exact ⟨rfl, (HB3.out.trans (HB4.out.mono HB3.out.size)).trans (HB5.out.mono (Nat.le_trans HB3.out.size HB4.out.size))⟩
end Go.Proofs.Ytfmljiidgaoihaa
