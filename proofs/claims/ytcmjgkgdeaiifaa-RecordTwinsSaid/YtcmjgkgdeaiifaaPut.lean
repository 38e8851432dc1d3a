/-
  What octets.Put, its helpers and the document's own Put, Fits and Same answer, call by call.
-/
import Derived.Test.YtcmjgkgdeaiifaaNum
namespace Go.Proofs.Ytcmjgkgdeaiifaa
open Go.ChangeShapes Go.WideShapes Go.ChangeAt Go.RowKit

theorem u8info : (Try.prog.info? 5).map (fun i => (i.zero, i.size, i.bytes)) = some (some (.int .u8 0), 1, 1) := by kernel_rfl

theorem canSize_yes (s : Int) (w : World) (h1 : 1 ≤ s) (h2 : s ≤ 8) :
    Calls Try.prog 49 #[.int .i64 s] w fun e w' => e = .returned (.bool true) ∧ w = w' := by
  go_enter Try.func49, Try.ntmps49
  go_wp2
  go_ret
  exact ⟨rfl, rfl⟩
theorem canSize_no (s : Int) (w : World) (h : s < 1 ∨ 8 < s) :
    Calls Try.prog 49 #[.int .i64 s] w fun e w' => e = .returned (.bool false) ∧ w = w' := by
  rcases h with h | h
  · go_enter Try.func49, Try.ntmps49
    go_wp2
    go_ret
    exact ⟨rfl, rfl⟩
  · have h1 : 1 ≤ s := by omega
    have h2 : decide (s ≤ 8) = false := by simp; omega
    go_enter Try.func49, Try.ntmps49
    go_wp2
    go_ret
    exact ⟨rfl, rfl⟩

theorem put_arg (n s : Int) (w : World) (h : s < 1 ∨ 8 < s) :
    Calls Try.prog 48 #[.int .u64 n, .int .i64 s] w fun e w' => e = .returned (.tuple #[.slice none 0 0, .int .i64 1]) ∧ w = w' := by
  go_enter Try.func48, Try.ntmps48
  go_wp2_with (go_at_call 49; refine (canSize_no _ _ h).mono ?_; rintro e w' ⟨rfl, rfl⟩)
  go_ret2
  exact ⟨rfl, rfl⟩

theorem put_range (n s : Nat) (w : World) (h1 : 1 ≤ s) (h2 : s ≤ 8) (hn : 256 ^ s ≤ n) :
    Calls Try.prog 48 #[.int .u64 (n : Int), .int .i64 (s : Int)] w fun e w' => e = .returned (.tuple #[.slice none 0 0, .int .i64 2]) ∧ w = w' := by
  have hd : ((n : Int) / 2 ^ (8 * s) != 0) = true := by
    have hd : 0 < n / 2 ^ (8 * s) := by rw [two_pow_8]; exact Nat.div_pos hn (Nat.pow_pos (by omega))
    have e : ((n : Int) / 2 ^ (8 * s)) = ((n / 2 ^ (8 * s) : Nat) : Int) := by simp
    rw [e]
    simp
    omega
  clear hn
  go_enter Try.func48, Try.ntmps48
  go_wp2_with (go_at_call 49; refine (canSize_yes _ _ (by omega) (by omega)).mono ?_; rintro e w' ⟨rfl, rfl⟩)
  go_ret2
  exact ⟨rfl, rfl⟩

/-- What stands in the new row after k rounds. -/
def putCells (n s k : Nat) : List UInt8 := List.replicate (s - k) 0 ++ be n k
theorem putCells_length (n s k : Nat) (h : k ≤ s) : (putCells n s k).length = s := by simp [putCells, be_length]; omega
theorem putCells_next (n s k : Nat) (h : k < s) : (cellsOf (putCells n s k)).set (s - 1 - k) (byteV (UInt8.ofNat (n / 256 ^ k))) = cellsOf (putCells n s (k + 1)) := by
  have e1 : s - k = (s - (k + 1)) + 1 := by omega
  unfold putCells
  rw [be_cons, e1, List.replicate_succ', cellsOf_append, cellsOf_append, cellsOf_append]
  rw [show s - 1 - k = (cellsOf (List.replicate (s - (k + 1)) 0)).length by rw [cellsOf_length, List.length_replicate]; omega]
  simp [cellsOf]

theorem put_ok (n s : Nat) (w : World) (h1 : 1 ≤ s) (h2 : s ≤ 8) (hn : n < 256 ^ s) :
    Calls Try.prog 48 #[.int .u64 (n : Int), .int .i64 (s : Int)] w fun e w' => ∃ A c, e = .returned (.tuple #[.slice A s c, .int .i64 0]) ∧ w'.ownsRow w.heap.size 5 1 (.slice A s c) s (cellsOf (be n s)) ∧ Below w.heap.size w w' := by
  have hd : ((n : Int) / 2 ^ (8 * s) != 0) = false := by
    have hd : n / 2 ^ (8 * s) = 0 := by rw [two_pow_8]; exact Nat.div_eq_of_lt hn
    have e : ((n : Int) / 2 ^ (8 * s)) = ((n / 2 ^ (8 * s) : Nat) : Int) := by simp
    rw [e, hd]
    rfl
  clear hn
  obtain ⟨i0, hi, hz0, hz1, hz2⟩ := info_parts u8info
  have hmk : ∀ u : World, (Instr.makeSlice 22 (.int .i64 (s : Int)) (.int .i64 (s : Int))).run Try.prog u =
      .ok (.slice (some ⟨u.heap.size, 0, none⟩) s s) (u.alloc (.cells (madeCells #[.int .u8 0] s) 5)) := fun u => by
    have h := run_make (P := Try.prog) u 22 5 i0 (.int .u8 0) Try.underlying22 hi hz0 .i64 .i64 (s : Int) (s : Int) (by omega) (Int.le_refl _) (by rw [hz2]; omega) (by omega)
    simpa [hz1, Value.cells] using h
  go_enter Try.func48, Try.ntmps48
  go_wp2_with (go_at_call 49; refine (canSize_yes _ _ (by omega) (by omega)).mono ?_; rintro e w' ⟨rfl, rfl⟩)
  have hb0 : Blk (w.alloc (.cells (madeCells #[.int .u8 0] s) 5)) w.heap.size 5 (cellsOf (putCells n s 0)) := by
    have := Blk.new w 5 (madeCells #[.int .u8 0] s)
    rw [toList_madeCells_one] at this
    simpa [putCells, be, cellsOf, byteV] using this
  have hw0 : Below w.heap.size w (w.alloc (.cells (madeCells #[.int .u8 0] s) 5)) := (Below.refl _ _).alloc (Nat.le_refl _) _
  go_loopw [19] (fun i wr => ∃ k : Nat, k ≤ s ∧ i = .int .i64 k ∧ Blk wr w.heap.size 5 (cellsOf (putCells n s k)) ∧ Below w.heap.size w wr) (fun i _ => s - (intOf i).toNat)
  case atStart => exact ⟨0, Nat.zero_le _, rfl, hb0, hw0⟩
  case round =>
    obtain ⟨k, hk, rfl, hb, hbw⟩ := hrel
    by_cases hlt : k < s
    · have hcl : (cellsOf (putCells n s k))[s - 1 - k]? = some (byteV ((putCells n s k)[s - 1 - k]'(by rw [putCells_length n s k hk]; omega))) := cellsOf_get _ _ _
      have hc : wr.cell? ⟨w.heap.size, s - 1 - k, none⟩ = some (byteV ((putCells n s k)[s - 1 - k]'(by rw [putCells_length n s k hk]; omega))) := (hb.cell _).trans hcl
      have hf : wr.frozen? ⟨w.heap.size, s - 1 - k, none⟩ = false := hb.frozen _
      have hv : (Value.int .u8 ((n : Int) / 2 ^ (8 * k) % 256)) = byteV (UInt8.ofNat (n / 256 ^ k)) := by
        unfold byteV
        rw [UInt8.toNat_ofNat', ← two_pow_8]
        simp
      have hb2 := kept ((putCells_next n s k hlt) ▸ hb.set_ (s - 1 - k) (byteV (UInt8.ofNat (n / 256 ^ k))))
      have hbw2 := kept (hbw.setCell (p := ⟨w.heap.size, s - 1 - k, none⟩) (Nat.le_refl _) (byteV (UInt8.ofNat (n / 256 ^ k))))
      have HV := kept hv
      clear hcl hb hv
      go_wp2
      go_roundw
      case rel => exact ⟨k + 1, by omega, by go_num, by rw [HV.out]; exact hb2.out, by rw [HV.out]; exact hbw2.out⟩
      case measure => simp [intOf]; omega
    · have : k = s := by omega
      subst this
      go_wp2
      go_ret2
      have hb3 : Blk wr w.heap.size 5 (cellsOf (be n k)) := by simpa [putCells] using hb
      exact ⟨_, _, rfl, hb3.own (Nat.le_refl _) (be_length _ _) (by unfold maxLen; omega), hbw⟩

/-- The document's Put: the last byte first, each one ahead of the others. -/
theorem refPut_own (n s : Nat) (w : World) (hn : n < 18446744073709551616) (hs : s ≤ 8) :
    Calls Try.prog 30 #[.int .u64 (n : Int), .int .i64 (s : Int)] w fun e w' => ∃ A c, e = .returned (.slice A s c) ∧ w'.ownsRow w.heap.size 5 1 (.slice A s c) s (cellsOf (be n s)) ∧ Below w.heap.size w w' := by
  obtain ⟨i0, hi, hz0, hz1, hz2⟩ := info_parts u8info
  go_enter Try.func30, Try.ntmps30
  go_wp2
  have hr0 : Hid ((w.alloc (.cells #[] 5)).ownsRow w.heap.size 5 1 (.slice (some ⟨w.heap.size, 0, none⟩) 0 0) 0 (cellsOf (be n 0))) :=
    World.ownsRow_made (base := w.heap.size) (e := 5) (size := 1) w #[] 0 (Nat.le_refl _) (Nat.zero_le _) rfl
  have hw0 : Below w.heap.size w (w.alloc (.cells #[] 5)) := (Below.refl _ _).alloc (Nat.le_refl _) _
  go_loopw [0, 5, 6] (fun v o i wr => ∃ (k : Nat) (A : Option Addr) (c : Nat), k ≤ s ∧ i = .int .i64 k ∧ v = .int .u64 ((n / 256 ^ k : Nat) : Int) ∧ o = .slice A k c ∧ Hid (wr.ownsRow w.heap.size 5 1 (.slice A k c) k (cellsOf (be n k))) ∧ Below w.heap.size w wr) (fun _ _ i _ => s - (intOf i).toNat)
  case atStart => exact ⟨0, _, _, Nat.zero_le _, rfl, by simp, rfl, hr0, hw0⟩
  case round =>
    obtain ⟨k, A, c, hk, rfl, rfl, rfl, hr, hbw⟩ := hrel
    have hq := div_pow_succ n k
    have hle : n / 256 ^ k ≤ n := Nat.div_le_self _ _
    have hcons := be_cons n k
    generalize hm : n / 256 ^ k = m at hq hle hcons
    have hm64 : m < 18446744073709551616 := by omega
    by_cases hlt : k < s
    · have HQ := kept hq
      have HC := kept hcons
      have hown : ∀ v : Value, v = .int .u8 ((m : Int) % 256) → (wr.alloc (.cells #[v] 5)).ownsRow wr.heap.size 5 1 (.slice (some ⟨wr.heap.size, 0, none⟩) 1 1) 1 (cellsOf [UInt8.ofNat m]) := by
        rintro v rfl
        have hb := Blk.new wr 5 #[.int .u8 ((m : Int) % 256)]
        have e : [Value.int .u8 ((m : Int) % 256)] = cellsOf [UInt8.ofNat m] := by simp [cellsOf, byteV]
        rw [show (#[Value.int .u8 ((m : Int) % 256)] : Array Value).toList = [Value.int .u8 ((m : Int) % 256)] from rfl, e] at hb
        exact hb.own (Nat.le_refl _) rfl (by unfold maxLen; omega)
      have HO := kept (hown _ rfl)
      have HR := kept ((Rd.of_own hr.out).alloc (.cells #[.int .u8 ((m : Int) % 256)] 5))
      have HB := kept hbw
      clear hq hm hcons hown hr hbw
      go_wp2_with (at_builtin; refine wpList_append_rd rfl _ _ 22 rfl wr.heap.size 5 rfl rfl Try.underlying22 u8info HO.out HR.out (by omega) (by simp) ?_; intro A' c' w1 hown1 hb1; have HO1 := kept hown1; have HB1 := kept hb1; clear hown1 hb1)
      go_roundw
      case rel =>
        have e : 1 + k = k + 1 := by omega
        have hrd := HO1.out
        rw [List.singleton_append, ← HC.out, e] at hrd
        rw [e]
        exact ⟨k + 1, _, _, by omega, by go_num, by rw [← HQ.out]; simp, rfl, own_mono hrd HB.out.size, (HB.out.alloc HB.out.size _).trans (HB1.out.mono HB.out.size)⟩
      case measure => simp [intOf]; omega
    · obtain rfl : k = s := by omega
      clear hq hm hcons
      go_wp2
      go_ret
      exact ⟨_, _, rfl, hr.out, hbw⟩
theorem refPut_ok (n s : Nat) (w : World) (hn : n < 18446744073709551616) (hs : s ≤ 8) :
    Calls Try.prog 30 #[.int .u64 (n : Int), .int .i64 (s : Int)] w fun e w' => ∃ A c, e = .returned (.slice A s c) ∧ Rd w' A s (be n s) ∧ Below w.heap.size w w' :=
  (refPut_own n s w hn hs).mono fun _ _ ⟨A, c, he, ho, hb⟩ => ⟨A, c, he, Rd.of_own ho, hb⟩

/-- Same: two slices of bytes as texts. -/
theorem same_any (A B : Option Addr) (n m c d : Nat) (xs ys : List UInt8) (w : World) (h1 : Rd w A n xs) (h2 : Rd w B m ys) (b : Bool) (hb : decide (xs = ys) = b) :
    Calls Try.prog 15 #[.slice A n c, .slice B m d] w fun e w' => e = .returned (.bool b) ∧ w = w' := by
  have c1 := h1.string (P := Try.prog) c 22 5 9 Try.underlying22 Try.underlying5 Try.underlying9
  have c2 := h2.string (P := Try.prog) d 22 5 9 Try.underlying22 Try.underlying5 Try.underlying9
  have hbb : ((strOf xs).toList == (strOf ys).toList) = b := by
    rw [strOf_toList, strOf_toList, ← hb]
    by_cases h : xs = ys
    · simp [h]
    · simp [h]
  clear hb h1 h2
  generalize strOf xs = s1 at c1 hbb
  generalize strOf ys = s2 at c2 hbb
  cases b <;> (go_enter Try.func15, Try.ntmps15; go_wp2; go_ret; exact ⟨rfl, rfl⟩)
end Go.Proofs.Ytcmjgkgdeaiifaa
