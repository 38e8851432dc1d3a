/-
  The law OctetsStops walked: for all bytes and things read it returns true and writes nothing that was there.
-/
import Derived.Test.YtgjibjpnbdffjaaReader3
import Derived.Test.YtgjibjpnbdffjaaRows2
namespace Go.Proofs.Ytgjibjpnbdffjaa.octetsStops
open Go.ChangeShapes Go.WideShapes Go.ChangeAt Go.RowKit
set_option linter.unusedVariables false

/-- What a call of a reader may leave: it goes on, not beyond the end; behind an error it stays and tells nothing. -/
structure Step (w w' : World) (r : Nat) (A : Option Addr) (n c : Nat) (xs : List UInt8) (pos : Nat) (err : Int) (pos' : Nat) (err' : Int) (zero : Prop) : Prop where
  rdr : Rdr w' r A n c xs pos' err'
  only : Only w w' r
  lo : pos ≤ pos'
  hi : pos' ≤ n
  stays : err ≠ 0 → zero ∧ pos' = pos ∧ err' = err

section
variable {r : Nat} {A : Option Addr} {n c : Nat} {xs : List UInt8} {pos : Nat} {err : Int} {w : World}
theorem Step.same (h : Rdr w r A n c xs pos err) (hp : pos ≤ n) {z : Prop} (hz : z) : Step w w r A n c xs pos err pos err z := ⟨h, Only.refl _ _, Nat.le_refl _, hp, fun _ => ⟨hz, rfl, rfl⟩⟩

theorem num_step (h : Rdr w r A n c xs pos err) (hl : n ≤ 140737488355328) (hp : pos ≤ n) (size : Int) :
    Calls Try.prog 29 #[.pointer (some ⟨r, 0, none⟩), .int .i64 size] w fun e w' => ∃ (v : Int) (pos' : Nat) (err' : Int), e = .returned (.int .u64 v) ∧ Hid (Step w w' r A n c xs pos err pos' err' (v = 0)) := by
  by_cases he : err = 0
  · subst he
    by_cases hs : size < 1 ∨ 8 < size
    · exact (num_bad r A n c xs pos size 0 1 w h (by omega) (fun W _ => get_arg A n c (pos : Int) size W hs)).mono fun e w' ⟨a, b⟩ => ⟨0, pos, 1, a, ⟨b.out.1, b.out.2, Nat.le_refl _, hp, fun h => absurd rfl h⟩⟩
    · obtain ⟨s, rfl⟩ := Int.eq_ofNat_of_zero_le (a := size) (by omega)
      by_cases hb : n < pos + s
      · exact (num_bad r A n c xs pos s 0 3 w h (by omega) (fun W _ => get_short A n c (pos : Int) s W (by omega) (by omega) hl (by omega) (by omega))).mono fun e w' ⟨a, b⟩ => ⟨0, pos, 3, a, ⟨b.out.1, b.out.2, Nat.le_refl _, hp, fun h => absurd rfl h⟩⟩
      · exact (num_ok r A n c xs pos s w h hl (by omega) (by omega) (by omega)).mono fun e w' ⟨a, b⟩ => ⟨_, pos + s, 0, a, ⟨b.out.1, b.out.2, by omega, by omega, fun h => absurd rfl h⟩⟩
  · exact (num_stopped r A n c xs pos err size w h he).mono fun e w' ⟨a, b⟩ => ⟨0, pos, err, a, by subst b; exact Step.same h hp rfl⟩
theorem bytes_step (h : Rdr w r A n c xs pos err) (hl : n ≤ 140737488355328) (hnc : n ≤ c) (hp : pos ≤ n) (m : Int) (hm : m ≤ 9223372036854775807) :
    Calls Try.prog 30 #[.pointer (some ⟨r, 0, none⟩), .int .i64 m] w fun e w' => ∃ (A' : Option Addr) (k c' : Nat) (pos' : Nat) (err' : Int), e = .returned (.slice A' k c') ∧ Hid (Step w w' r A n c xs pos err pos' err' (k = 0)) := by
  by_cases he : err = 0
  · subst he
    by_cases hb : m < 0 ∨ n < pos + m
    · exact (bytes_short r A n c xs pos m w h hl hp hb hm).mono fun e w' ⟨a, b⟩ => ⟨none, 0, 0, pos, 3, a, ⟨b.out.1, b.out.2, Nat.le_refl _, hp, fun h => absurd rfl h⟩⟩
    · obtain ⟨k, rfl⟩ := Int.eq_ofNat_of_zero_le (a := m) (by omega)
      exact (bytes_ok r A n c xs pos k w h hl hnc (by omega)).mono fun e w' ⟨A', c', a, _, b⟩ => ⟨A', k, c', pos + k, 0, a, ⟨b.out.1, b.out.2, by omega, by omega, fun h => absurd rfl h⟩⟩
  · exact (bytes_stopped r A n c xs pos err m w h he).mono fun e w' ⟨a, b⟩ => ⟨none, 0, 0, pos, err, a, by subst b; exact Step.same h hp rfl⟩
theorem text_step (h : Rdr w r A n c xs pos err) (hl : n ≤ 140737488355328) (hnc : n ≤ c) (hp : pos ≤ n) (most : Int) :
    Calls Try.prog 31 #[.pointer (some ⟨r, 0, none⟩), .int .i64 most] w fun e w' => ∃ (A' : Option Addr) (k c' : Nat) (pos' : Nat) (err' : Int), e = .returned (.slice A' k c') ∧ Hid (Step w w' r A n c xs pos err pos' err' (k = 0)) := by
  by_cases he : err = 0
  · subst he
    by_cases hb : n < pos + 2
    · exact (text_bare r A n c xs pos most w h hl hp hb).mono fun e w' ⟨a, b⟩ => ⟨none, 0, 0, pos, 3, a, ⟨b.out.1, b.out.2, Nat.le_refl _, hp, fun h => absurd rfl h⟩⟩
    · by_cases hm : most < (num (part xs pos 2) 0 : Nat)
      · exact (text_long r A n c xs pos most w h hl (by omega) _ rfl hm).mono fun e w' ⟨a, b⟩ => ⟨none, 0, 0, pos, 5, a, ⟨b.out.1, b.out.2, Nat.le_refl _, hp, fun h => absurd rfl h⟩⟩
      · by_cases hs : n < pos + 2 + num (part xs pos 2) 0
        · exact (text_short r A n c xs pos most w h hl (by omega) _ rfl (by omega) hs).mono fun e w' ⟨a, b⟩ => ⟨none, 0, 0, pos, 3, a, ⟨b.out.1, b.out.2, Nat.le_refl _, hp, fun h => absurd rfl h⟩⟩
        · exact (text_ok r A n c xs pos most w h hl hnc _ (by omega) rfl (by omega)).mono fun e w' ⟨A', c', a, _, b⟩ => ⟨A', _, c', _, 0, a, ⟨b.out.1, b.out.2, by omega, by omega, fun h => absurd rfl h⟩⟩
  · exact (text_stopped r A n c xs pos err most w h he).mono fun e w' ⟨a, b⟩ => ⟨none, 0, 0, pos, err, a, by subst b; exact Step.same h hp rfl⟩
theorem flag_step (h : Rdr w r A n c xs pos err) (hl : n ≤ 140737488355328) (hp : pos ≤ n) :
    Calls Try.prog 32 #[.pointer (some ⟨r, 0, none⟩)] w fun e w' => ∃ (v : Bool) (pos' : Nat) (err' : Int), e = .returned (.bool v) ∧ Hid (Step w w' r A n c xs pos err pos' err' (v = false)) := by
  by_cases he : err = 0
  · subst he
    by_cases hb : n ≤ pos
    · exact (flag_short r A n c xs pos w h hl hb (by omega)).mono fun e w' ⟨a, b⟩ => ⟨false, pos, 3, a, ⟨b.out.1, b.out.2, Nat.le_refl _, hp, fun h => absurd rfl h⟩⟩
    · refine (flag_byte r A n c xs pos w h hl (by omega) _ rfl).mono fun e w' hh => ?_
      rcases hh with ⟨_, a, b⟩ | ⟨_, a, b⟩
      · exact ⟨false, pos, 4, a, ⟨b.out.1, b.out.2, Nat.le_refl _, hp, fun h => absurd rfl h⟩⟩
      · exact ⟨_, pos + 1, 0, a, ⟨b.out.1, b.out.2, by omega, by omega, fun h => absurd rfl h⟩⟩
  · exact (flag_stopped r A n c xs pos err w h he).mono fun e w' ⟨a, b⟩ => ⟨false, pos, err, a, by subst b; exact Step.same h hp rfl⟩
end

set_option maxHeartbeats 4000000 in
set_option maxRecDepth 100000 in
theorem walk (w : World) (A : Option Addr) (n c : Nat) (xs : List UInt8) (hr : Rd w A n xs) (hnc : n ≤ c) (hl : n ≤ 140737488351232)
    (B : Option Addr) (m d : Nat) (hmd : m ≤ d) (hdm : d ≤ maxLen) (K N : Nat → Int) (hp : RdPairs w B m K N) :
    Calls Try.prog 9 #[.slice A n c, .slice B m d] w fun e w' => e = .returned (.bool true) ∧ Below w.heap.size w w' := by
  have HP := kept hp
  have hmm : m ≤ 9223372036854775807 := by unfold maxLen at hdm; omega
  have HNR := kept (newReader_any A n c xs w hr (by omega))
  clear hr hp hdm
  by_cases hbig : 300 < m
  · have hd : decide (300 < (m : Int)) = true := by simp; omega
    go_enter Try.func9, Try.ntmps9
    go_wp2_with fail
    with_reducible refine HNR.out.mono ?_
    rintro e w1 ⟨r, A1, c1, rfl, H1, hc1, hr1, hb1⟩
    have HB1 := kept hb1
    go_wp2
    go_ret
    exact ⟨rfl, HB1.out⟩
  · have hm : m ≤ 300 := by omega
    have hd : decide (300 < (m : Int)) = false := by simp; omega
    clear hbig
    go_enter Try.func9, Try.ntmps9
    go_wp2_with fail
    with_reducible refine HNR.out.mono ?_
    rintro e w1 ⟨r, A1, c1, rfl, H1, hc1, hr1, hb1⟩
    have HD1 := kept H1
    have HB1 := kept hb1
    clear H1 hb1
    go_wp2
    go_loopw [26] (fun i wr => ∃ (k pos : Nat) (err : Int), k ≤ m ∧ pos ≤ n ∧ i = .int .i64 k ∧ Hid (Rdr wr r A1 n c1 xs pos err) ∧ Hid (Below w.heap.size w wr)) (fun i _ => m - (intOf i).toNat)
    case atStart => exact ⟨0, 0, 0, Nat.zero_le _, Nat.zero_le _, rfl, HD1, HB1⟩
    case round =>
      obtain ⟨k, pos, err, hk, hpos, rfl, HD, HB⟩ := hrel
      by_cases hlt : k < m
      · obtain ⟨b, rfl, hc⟩ := HP.out.cell (by omega)
        obtain ⟨bb, bo, bs⟩ := b
        obtain rfl : bs = none := by simpa [Addr.add] using World.cell?_spot (hc 0 (by omega)).1
        have hplain : ∀ i, (⟨bb, bo, none⟩ : Addr).add i = ⟨bb, bo + i, none⟩ := fun i => by unfold Addr.add; split <;> simp_all
        have hck := hc k hlt
        rw [hplain, hplain] at hck
        have hc0 : wr.cell? ⟨bb, bo + k * 2, none⟩ = some (.int .i64 (K k)) := (HB.out.cell (p := ⟨bb, bo + k * 2, none⟩) (World.block_lt_of_cell? w _ hck.1)).trans hck.1
        have hc1' : wr.cell? ⟨bb, bo + k * 2 + 1, none⟩ = some (.int .i64 (N k)) := (HB.out.cell (p := ⟨bb, bo + k * 2 + 1, none⟩) (World.block_lt_of_cell? w _ hck.2)).trans hck.2
        have hi1 : (0 : Int) ≤ (k : Int) := by omega
        have hi2 : (k : Int) < (m : Int) := by omega
        clear hc hck hplain
        have HD0 := kept (HD.out.below ((Below.refl wr.heap.size wr).alloc (Nat.le_refl _) (.cells #[.int .i64 (K k), .int .i64 (N k)] 42)))
        have HB0 := kept (HB.out.alloc HB.out.size (.cells #[.int .i64 (K k), .int .i64 (N k)] 42))
        have HX0 := kept (Blk.new wr 42 #[.int .i64 (K k), .int .i64 (N k)])
        have HE0 := kept (endR_any r A1 n c1 xs pos err _ HD0.out (by omega) hpos)
        have hE : (endE n pos err = 0 ∨ endE n pos err = 5) ∨ (endE n pos err = err ∧ err ≠ 0 ∧ err ≠ 5) := by
          unfold endE
          by_cases h : err = 0
          · subst h
            by_cases h' : pos < n <;> simp [h']
          · by_cases h5 : err = 5
            · subst h5; simp
            · simp [h, h5]
        have hNk := (HP.out.fits k hlt).2
        have hNk2 : N k ≤ 9223372036854775807 := by
          have : -9223372036854775808 ≤ N k ∧ N k ≤ 9223372036854775807 := by simpa [Lit.wf, IntKind.min, IntKind.max, IntKind.signed, IntKind.bits] using hNk
          exact this.2
        clear hNk
        generalize endE n pos err = E at HE0 hE
        generalize K k = kk at *
        generalize N k = nn at *
        have HRR : Hid (w.heap.size ≤ r) := hr1
        have hkind : (kk = 0 ∨ kk = 1 ∨ kk = 2) ∨ ((kk == 0) = false ∧ (kk == 1) = false ∧ (kk == 2) = false) := by
          by_cases h0 : kk = 0
          · exact .inl (.inl h0)
          · by_cases h1 : kk = 1
            · exact .inl (.inr (.inl h1))
            · by_cases h2 : kk = 2
              · exact .inl (.inr (.inr h2))
              · exact .inr ⟨by simp [h0], by simp [h1], by simp [h2]⟩
        rcases hE with (rfl | rfl) | ⟨rfl, he0, he5⟩
        · rcases hkind with (rfl | rfl | rfl) | ⟨k0, k1, k2⟩
          · go_wp2_with fail
            with_reducible refine HE0.out.mono ?_
            rintro e w2 ⟨rfl, HW2⟩
            have HD2 : Hid (Rdr w2 r A1 n c1 xs pos err) := by obtain ⟨q, rfl⟩ := HW2.out; exact HD0.out
            have HB2 : Hid (Below w.heap.size w w2) := by obtain ⟨q, rfl⟩ := HW2.out; exact drewN_below HB0.out q
            have HX2 : Hid (Blk w2 wr.heap.size 42 [.int .i64 0, .int .i64 nn]) := by obtain ⟨q, rfl⟩ := HW2.out; exact HX0.out
            have x0 : w2.cell? ⟨wr.heap.size, 0, none⟩ = some (.int .i64 0) := HX2.out.cell 0
            have x1 : w2.cell? ⟨wr.heap.size, 1, none⟩ = some (.int .i64 nn) := HX2.out.cell 1
            have HAT2 := kept (at_any r A1 n c1 xs pos err w2 HD2.out)
            clear HW2
            go_wp2_with fail
            with_reducible refine HAT2.out.mono ?_
            rintro e w' ⟨rfl, rfl⟩
            go_wp2_with fail
            with_reducible refine (num_step HD2.out (by omega) hpos nn).mono ?_
            rintro e w3 ⟨v, pos', err', rfl, HS⟩
            have HAT3 := kept (at_any r A1 n c1 xs pos' err' w3 HS.out.rdr)
            have hlo : decide (pos' < pos) = false := by have := HS.out.lo; simp; omega
            have hhi : decide (n < pos') = false := by have := HS.out.hi; simp; omega
            have HB3 := kept (Only.below HB2.out HS.out.only HB2.out.size HRR.out)
            go_wp2_with (first | (go_at_call 28; (with_reducible refine (HAT3.out).mono ?_); rintro e w' ⟨rfl, rfl⟩))
            go_roundw
            case rel => exact ⟨k + 1, pos', err', by omega, HS.out.hi, by go_num, HS.out.rdr, HB3⟩
            case measure => simp [intOf]; omega
          · go_wp2_with fail
            with_reducible refine HE0.out.mono ?_
            rintro e w2 ⟨rfl, HW2⟩
            have HD2 : Hid (Rdr w2 r A1 n c1 xs pos err) := by obtain ⟨q, rfl⟩ := HW2.out; exact HD0.out
            have HB2 : Hid (Below w.heap.size w w2) := by obtain ⟨q, rfl⟩ := HW2.out; exact drewN_below HB0.out q
            have HX2 : Hid (Blk w2 wr.heap.size 42 [.int .i64 1, .int .i64 nn]) := by obtain ⟨q, rfl⟩ := HW2.out; exact HX0.out
            have x0 : w2.cell? ⟨wr.heap.size, 0, none⟩ = some (.int .i64 1) := HX2.out.cell 0
            have x1 : w2.cell? ⟨wr.heap.size, 1, none⟩ = some (.int .i64 nn) := HX2.out.cell 1
            have HAT2 := kept (at_any r A1 n c1 xs pos err w2 HD2.out)
            clear HW2
            go_wp2_with fail
            with_reducible refine HAT2.out.mono ?_
            rintro e w' ⟨rfl, rfl⟩
            go_wp2_with fail
            with_reducible refine (bytes_step HD2.out (by omega) hc1 hpos nn hNk2).mono ?_
            rintro e w3 ⟨A', t, c', pos', err', rfl, HS⟩
            have HAT3 := kept (at_any r A1 n c1 xs pos' err' w3 HS.out.rdr)
            have hlo : decide (pos' < pos) = false := by have := HS.out.lo; simp; omega
            have hhi : decide (n < pos') = false := by have := HS.out.hi; simp; omega
            have HB3 := kept (Only.below HB2.out HS.out.only HB2.out.size HRR.out)
            go_wp2_with (first | (go_at_call 28; (with_reducible refine (HAT3.out).mono ?_); rintro e w' ⟨rfl, rfl⟩))
            go_roundw
            case rel => exact ⟨k + 1, pos', err', by omega, HS.out.hi, by go_num, HS.out.rdr, HB3⟩
            case measure => simp [intOf]; omega
          · go_wp2_with fail
            with_reducible refine HE0.out.mono ?_
            rintro e w2 ⟨rfl, HW2⟩
            have HD2 : Hid (Rdr w2 r A1 n c1 xs pos err) := by obtain ⟨q, rfl⟩ := HW2.out; exact HD0.out
            have HB2 : Hid (Below w.heap.size w w2) := by obtain ⟨q, rfl⟩ := HW2.out; exact drewN_below HB0.out q
            have HX2 : Hid (Blk w2 wr.heap.size 42 [.int .i64 2, .int .i64 nn]) := by obtain ⟨q, rfl⟩ := HW2.out; exact HX0.out
            have x0 : w2.cell? ⟨wr.heap.size, 0, none⟩ = some (.int .i64 2) := HX2.out.cell 0
            have x1 : w2.cell? ⟨wr.heap.size, 1, none⟩ = some (.int .i64 nn) := HX2.out.cell 1
            have HAT2 := kept (at_any r A1 n c1 xs pos err w2 HD2.out)
            clear HW2
            go_wp2_with fail
            with_reducible refine HAT2.out.mono ?_
            rintro e w' ⟨rfl, rfl⟩
            go_wp2_with fail
            with_reducible refine (text_step HD2.out (by omega) hc1 hpos nn).mono ?_
            rintro e w3 ⟨A', t, c', pos', err', rfl, HS⟩
            have HAT3 := kept (at_any r A1 n c1 xs pos' err' w3 HS.out.rdr)
            have hlo : decide (pos' < pos) = false := by have := HS.out.lo; simp; omega
            have hhi : decide (n < pos') = false := by have := HS.out.hi; simp; omega
            have HB3 := kept (Only.below HB2.out HS.out.only HB2.out.size HRR.out)
            go_wp2_with (first | (go_at_call 28; (with_reducible refine (HAT3.out).mono ?_); rintro e w' ⟨rfl, rfl⟩))
            go_roundw
            case rel => exact ⟨k + 1, pos', err', by omega, HS.out.hi, by go_num, HS.out.rdr, HB3⟩
            case measure => simp [intOf]; omega
          · go_wp2_with fail
            with_reducible refine HE0.out.mono ?_
            rintro e w2 ⟨rfl, HW2⟩
            have HD2 : Hid (Rdr w2 r A1 n c1 xs pos err) := by obtain ⟨q, rfl⟩ := HW2.out; exact HD0.out
            have HB2 : Hid (Below w.heap.size w w2) := by obtain ⟨q, rfl⟩ := HW2.out; exact drewN_below HB0.out q
            have HX2 : Hid (Blk w2 wr.heap.size 42 [.int .i64 kk, .int .i64 nn]) := by obtain ⟨q, rfl⟩ := HW2.out; exact HX0.out
            have x0 : w2.cell? ⟨wr.heap.size, 0, none⟩ = some (.int .i64 kk) := HX2.out.cell 0
            have x1 : w2.cell? ⟨wr.heap.size, 1, none⟩ = some (.int .i64 nn) := HX2.out.cell 1
            have HAT2 := kept (at_any r A1 n c1 xs pos err w2 HD2.out)
            clear HW2
            go_wp2_with fail
            with_reducible refine HAT2.out.mono ?_
            rintro e w' ⟨rfl, rfl⟩
            go_wp2_with fail
            with_reducible refine (flag_step HD2.out (by omega) hpos).mono ?_
            rintro e w3 ⟨v, pos', err', rfl, HS⟩
            have HAT3 := kept (at_any r A1 n c1 xs pos' err' w3 HS.out.rdr)
            have hlo : decide (pos' < pos) = false := by have := HS.out.lo; simp; omega
            have hhi : decide (n < pos') = false := by have := HS.out.hi; simp; omega
            have HB3 := kept (Only.below HB2.out HS.out.only HB2.out.size HRR.out)
            go_wp2_with (first | (go_at_call 28; (with_reducible refine (HAT3.out).mono ?_); rintro e w' ⟨rfl, rfl⟩))
            go_roundw
            case rel => exact ⟨k + 1, pos', err', by omega, HS.out.hi, by go_num, HS.out.rdr, HB3⟩
            case measure => simp [intOf]; omega
        · rcases hkind with (rfl | rfl | rfl) | ⟨k0, k1, k2⟩
          · go_wp2_with fail
            with_reducible refine HE0.out.mono ?_
            rintro e w2 ⟨rfl, HW2⟩
            have HD2 : Hid (Rdr w2 r A1 n c1 xs pos err) := by obtain ⟨q, rfl⟩ := HW2.out; exact HD0.out
            have HB2 : Hid (Below w.heap.size w w2) := by obtain ⟨q, rfl⟩ := HW2.out; exact drewN_below HB0.out q
            have HX2 : Hid (Blk w2 wr.heap.size 42 [.int .i64 0, .int .i64 nn]) := by obtain ⟨q, rfl⟩ := HW2.out; exact HX0.out
            have x0 : w2.cell? ⟨wr.heap.size, 0, none⟩ = some (.int .i64 0) := HX2.out.cell 0
            have x1 : w2.cell? ⟨wr.heap.size, 1, none⟩ = some (.int .i64 nn) := HX2.out.cell 1
            have HAT2 := kept (at_any r A1 n c1 xs pos err w2 HD2.out)
            clear HW2
            go_wp2_with fail
            with_reducible refine HAT2.out.mono ?_
            rintro e w' ⟨rfl, rfl⟩
            go_wp2_with fail
            with_reducible refine (num_step HD2.out (by omega) hpos nn).mono ?_
            rintro e w3 ⟨v, pos', err', rfl, HS⟩
            have HAT3 := kept (at_any r A1 n c1 xs pos' err' w3 HS.out.rdr)
            have hlo : decide (pos' < pos) = false := by have := HS.out.lo; simp; omega
            have hhi : decide (n < pos') = false := by have := HS.out.hi; simp; omega
            have HB3 := kept (Only.below HB2.out HS.out.only HB2.out.size HRR.out)
            go_wp2_with (first | (go_at_call 28; (with_reducible refine (HAT3.out).mono ?_); rintro e w' ⟨rfl, rfl⟩))
            go_roundw
            case rel => exact ⟨k + 1, pos', err', by omega, HS.out.hi, by go_num, HS.out.rdr, HB3⟩
            case measure => simp [intOf]; omega
          · go_wp2_with fail
            with_reducible refine HE0.out.mono ?_
            rintro e w2 ⟨rfl, HW2⟩
            have HD2 : Hid (Rdr w2 r A1 n c1 xs pos err) := by obtain ⟨q, rfl⟩ := HW2.out; exact HD0.out
            have HB2 : Hid (Below w.heap.size w w2) := by obtain ⟨q, rfl⟩ := HW2.out; exact drewN_below HB0.out q
            have HX2 : Hid (Blk w2 wr.heap.size 42 [.int .i64 1, .int .i64 nn]) := by obtain ⟨q, rfl⟩ := HW2.out; exact HX0.out
            have x0 : w2.cell? ⟨wr.heap.size, 0, none⟩ = some (.int .i64 1) := HX2.out.cell 0
            have x1 : w2.cell? ⟨wr.heap.size, 1, none⟩ = some (.int .i64 nn) := HX2.out.cell 1
            have HAT2 := kept (at_any r A1 n c1 xs pos err w2 HD2.out)
            clear HW2
            go_wp2_with fail
            with_reducible refine HAT2.out.mono ?_
            rintro e w' ⟨rfl, rfl⟩
            go_wp2_with fail
            with_reducible refine (bytes_step HD2.out (by omega) hc1 hpos nn hNk2).mono ?_
            rintro e w3 ⟨A', t, c', pos', err', rfl, HS⟩
            have HAT3 := kept (at_any r A1 n c1 xs pos' err' w3 HS.out.rdr)
            have hlo : decide (pos' < pos) = false := by have := HS.out.lo; simp; omega
            have hhi : decide (n < pos') = false := by have := HS.out.hi; simp; omega
            have HB3 := kept (Only.below HB2.out HS.out.only HB2.out.size HRR.out)
            go_wp2_with (first | (go_at_call 28; (with_reducible refine (HAT3.out).mono ?_); rintro e w' ⟨rfl, rfl⟩))
            go_roundw
            case rel => exact ⟨k + 1, pos', err', by omega, HS.out.hi, by go_num, HS.out.rdr, HB3⟩
            case measure => simp [intOf]; omega
          · go_wp2_with fail
            with_reducible refine HE0.out.mono ?_
            rintro e w2 ⟨rfl, HW2⟩
            have HD2 : Hid (Rdr w2 r A1 n c1 xs pos err) := by obtain ⟨q, rfl⟩ := HW2.out; exact HD0.out
            have HB2 : Hid (Below w.heap.size w w2) := by obtain ⟨q, rfl⟩ := HW2.out; exact drewN_below HB0.out q
            have HX2 : Hid (Blk w2 wr.heap.size 42 [.int .i64 2, .int .i64 nn]) := by obtain ⟨q, rfl⟩ := HW2.out; exact HX0.out
            have x0 : w2.cell? ⟨wr.heap.size, 0, none⟩ = some (.int .i64 2) := HX2.out.cell 0
            have x1 : w2.cell? ⟨wr.heap.size, 1, none⟩ = some (.int .i64 nn) := HX2.out.cell 1
            have HAT2 := kept (at_any r A1 n c1 xs pos err w2 HD2.out)
            clear HW2
            go_wp2_with fail
            with_reducible refine HAT2.out.mono ?_
            rintro e w' ⟨rfl, rfl⟩
            go_wp2_with fail
            with_reducible refine (text_step HD2.out (by omega) hc1 hpos nn).mono ?_
            rintro e w3 ⟨A', t, c', pos', err', rfl, HS⟩
            have HAT3 := kept (at_any r A1 n c1 xs pos' err' w3 HS.out.rdr)
            have hlo : decide (pos' < pos) = false := by have := HS.out.lo; simp; omega
            have hhi : decide (n < pos') = false := by have := HS.out.hi; simp; omega
            have HB3 := kept (Only.below HB2.out HS.out.only HB2.out.size HRR.out)
            go_wp2_with (first | (go_at_call 28; (with_reducible refine (HAT3.out).mono ?_); rintro e w' ⟨rfl, rfl⟩))
            go_roundw
            case rel => exact ⟨k + 1, pos', err', by omega, HS.out.hi, by go_num, HS.out.rdr, HB3⟩
            case measure => simp [intOf]; omega
          · go_wp2_with fail
            with_reducible refine HE0.out.mono ?_
            rintro e w2 ⟨rfl, HW2⟩
            have HD2 : Hid (Rdr w2 r A1 n c1 xs pos err) := by obtain ⟨q, rfl⟩ := HW2.out; exact HD0.out
            have HB2 : Hid (Below w.heap.size w w2) := by obtain ⟨q, rfl⟩ := HW2.out; exact drewN_below HB0.out q
            have HX2 : Hid (Blk w2 wr.heap.size 42 [.int .i64 kk, .int .i64 nn]) := by obtain ⟨q, rfl⟩ := HW2.out; exact HX0.out
            have x0 : w2.cell? ⟨wr.heap.size, 0, none⟩ = some (.int .i64 kk) := HX2.out.cell 0
            have x1 : w2.cell? ⟨wr.heap.size, 1, none⟩ = some (.int .i64 nn) := HX2.out.cell 1
            have HAT2 := kept (at_any r A1 n c1 xs pos err w2 HD2.out)
            clear HW2
            go_wp2_with fail
            with_reducible refine HAT2.out.mono ?_
            rintro e w' ⟨rfl, rfl⟩
            go_wp2_with fail
            with_reducible refine (flag_step HD2.out (by omega) hpos).mono ?_
            rintro e w3 ⟨v, pos', err', rfl, HS⟩
            have HAT3 := kept (at_any r A1 n c1 xs pos' err' w3 HS.out.rdr)
            have hlo : decide (pos' < pos) = false := by have := HS.out.lo; simp; omega
            have hhi : decide (n < pos') = false := by have := HS.out.hi; simp; omega
            have HB3 := kept (Only.below HB2.out HS.out.only HB2.out.size HRR.out)
            go_wp2_with (first | (go_at_call 28; (with_reducible refine (HAT3.out).mono ?_); rintro e w' ⟨rfl, rfl⟩))
            go_roundw
            case rel => exact ⟨k + 1, pos', err', by omega, HS.out.hi, by go_num, HS.out.rdr, HB3⟩
            case measure => simp [intOf]; omega
        · have e1 : (E != 0) = true := by simp [he0]
          have e2 : (E != 5) = true := by simp [he5]
          have HNE := kept he0
          clear he0 he5
          rcases hkind with (rfl | rfl | rfl) | ⟨k0, k1, k2⟩
          · go_wp2_with fail
            with_reducible refine HE0.out.mono ?_
            rintro e w2 ⟨rfl, HW2⟩
            have HD2 : Hid (Rdr w2 r A1 n c1 xs pos E) := by obtain ⟨q, rfl⟩ := HW2.out; exact HD0.out
            have HB2 : Hid (Below w.heap.size w w2) := by obtain ⟨q, rfl⟩ := HW2.out; exact drewN_below HB0.out q
            have HX2 : Hid (Blk w2 wr.heap.size 42 [.int .i64 0, .int .i64 nn]) := by obtain ⟨q, rfl⟩ := HW2.out; exact HX0.out
            have x0 : w2.cell? ⟨wr.heap.size, 0, none⟩ = some (.int .i64 0) := HX2.out.cell 0
            have x1 : w2.cell? ⟨wr.heap.size, 1, none⟩ = some (.int .i64 nn) := HX2.out.cell 1
            have HAT2 := kept (at_any r A1 n c1 xs pos E w2 HD2.out)
            clear HW2
            go_wp2_with fail
            with_reducible refine HAT2.out.mono ?_
            rintro e w' ⟨rfl, rfl⟩
            go_wp2_with fail
            with_reducible refine (num_step HD2.out (by omega) hpos nn).mono ?_
            rintro e w3 ⟨v, pos', err', rfl, HS⟩
            obtain ⟨rfl, rfl, rfl⟩ := HS.out.stays HNE.out
            have HAT3 := kept (at_any r A1 n c1 xs pos' err' w3 HS.out.rdr)
            have HAT4 := fun q => kept (at_any r A1 n c1 xs pos' err' (w3.drewN q) HS.out.rdr)
            have HE3 := kept (endR_any r A1 n c1 xs pos' err' w3 HS.out.rdr (by omega) hpos)
            have hEE : endE n pos' err' = err' := by unfold endE; rw [if_pos HNE.out]
            rw [hEE] at HE3
            have HB3 := kept (Only.below HB2.out HS.out.only HB2.out.size HRR.out)
            clear hEE
            go_wp2_with (first | (go_at_call 28; (with_reducible refine (HAT3.out).mono ?_); rintro e w' ⟨rfl, rfl⟩) | (go_at_call 27; (with_reducible refine (HE3.out).mono ?_); rintro e w' ⟨rfl, q, rfl⟩) | (go_at_call 28; (with_reducible refine ((HAT4 _).out).mono ?_); rintro e w' ⟨rfl, rfl⟩))
            go_roundw
            case rel => exact ⟨k + 1, pos', err', by omega, hpos, by go_num, HS.out.rdr, drewN_below HB3.out _⟩
            case measure => simp [intOf]; omega
          · go_wp2_with fail
            with_reducible refine HE0.out.mono ?_
            rintro e w2 ⟨rfl, HW2⟩
            have HD2 : Hid (Rdr w2 r A1 n c1 xs pos E) := by obtain ⟨q, rfl⟩ := HW2.out; exact HD0.out
            have HB2 : Hid (Below w.heap.size w w2) := by obtain ⟨q, rfl⟩ := HW2.out; exact drewN_below HB0.out q
            have HX2 : Hid (Blk w2 wr.heap.size 42 [.int .i64 1, .int .i64 nn]) := by obtain ⟨q, rfl⟩ := HW2.out; exact HX0.out
            have x0 : w2.cell? ⟨wr.heap.size, 0, none⟩ = some (.int .i64 1) := HX2.out.cell 0
            have x1 : w2.cell? ⟨wr.heap.size, 1, none⟩ = some (.int .i64 nn) := HX2.out.cell 1
            have HAT2 := kept (at_any r A1 n c1 xs pos E w2 HD2.out)
            clear HW2
            go_wp2_with fail
            with_reducible refine HAT2.out.mono ?_
            rintro e w' ⟨rfl, rfl⟩
            go_wp2_with fail
            with_reducible refine (bytes_step HD2.out (by omega) hc1 hpos nn hNk2).mono ?_
            rintro e w3 ⟨A', t, c', pos', err', rfl, HS⟩
            obtain ⟨rfl, rfl, rfl⟩ := HS.out.stays HNE.out
            have HAT3 := kept (at_any r A1 n c1 xs pos' err' w3 HS.out.rdr)
            have HAT4 := fun q => kept (at_any r A1 n c1 xs pos' err' (w3.drewN q) HS.out.rdr)
            have HE3 := kept (endR_any r A1 n c1 xs pos' err' w3 HS.out.rdr (by omega) hpos)
            have hEE : endE n pos' err' = err' := by unfold endE; rw [if_pos HNE.out]
            rw [hEE] at HE3
            have HB3 := kept (Only.below HB2.out HS.out.only HB2.out.size HRR.out)
            clear hEE
            go_wp2_with (first | (go_at_call 28; (with_reducible refine (HAT3.out).mono ?_); rintro e w' ⟨rfl, rfl⟩) | (go_at_call 27; (with_reducible refine (HE3.out).mono ?_); rintro e w' ⟨rfl, q, rfl⟩) | (go_at_call 28; (with_reducible refine ((HAT4 _).out).mono ?_); rintro e w' ⟨rfl, rfl⟩))
            go_roundw
            case rel => exact ⟨k + 1, pos', err', by omega, hpos, by go_num, HS.out.rdr, drewN_below HB3.out _⟩
            case measure => simp [intOf]; omega
          · go_wp2_with fail
            with_reducible refine HE0.out.mono ?_
            rintro e w2 ⟨rfl, HW2⟩
            have HD2 : Hid (Rdr w2 r A1 n c1 xs pos E) := by obtain ⟨q, rfl⟩ := HW2.out; exact HD0.out
            have HB2 : Hid (Below w.heap.size w w2) := by obtain ⟨q, rfl⟩ := HW2.out; exact drewN_below HB0.out q
            have HX2 : Hid (Blk w2 wr.heap.size 42 [.int .i64 2, .int .i64 nn]) := by obtain ⟨q, rfl⟩ := HW2.out; exact HX0.out
            have x0 : w2.cell? ⟨wr.heap.size, 0, none⟩ = some (.int .i64 2) := HX2.out.cell 0
            have x1 : w2.cell? ⟨wr.heap.size, 1, none⟩ = some (.int .i64 nn) := HX2.out.cell 1
            have HAT2 := kept (at_any r A1 n c1 xs pos E w2 HD2.out)
            clear HW2
            go_wp2_with fail
            with_reducible refine HAT2.out.mono ?_
            rintro e w' ⟨rfl, rfl⟩
            go_wp2_with fail
            with_reducible refine (text_step HD2.out (by omega) hc1 hpos nn).mono ?_
            rintro e w3 ⟨A', t, c', pos', err', rfl, HS⟩
            obtain ⟨rfl, rfl, rfl⟩ := HS.out.stays HNE.out
            have HAT3 := kept (at_any r A1 n c1 xs pos' err' w3 HS.out.rdr)
            have HAT4 := fun q => kept (at_any r A1 n c1 xs pos' err' (w3.drewN q) HS.out.rdr)
            have HE3 := kept (endR_any r A1 n c1 xs pos' err' w3 HS.out.rdr (by omega) hpos)
            have hEE : endE n pos' err' = err' := by unfold endE; rw [if_pos HNE.out]
            rw [hEE] at HE3
            have HB3 := kept (Only.below HB2.out HS.out.only HB2.out.size HRR.out)
            clear hEE
            go_wp2_with (first | (go_at_call 28; (with_reducible refine (HAT3.out).mono ?_); rintro e w' ⟨rfl, rfl⟩) | (go_at_call 27; (with_reducible refine (HE3.out).mono ?_); rintro e w' ⟨rfl, q, rfl⟩) | (go_at_call 28; (with_reducible refine ((HAT4 _).out).mono ?_); rintro e w' ⟨rfl, rfl⟩))
            go_roundw
            case rel => exact ⟨k + 1, pos', err', by omega, hpos, by go_num, HS.out.rdr, drewN_below HB3.out _⟩
            case measure => simp [intOf]; omega
          · go_wp2_with fail
            with_reducible refine HE0.out.mono ?_
            rintro e w2 ⟨rfl, HW2⟩
            have HD2 : Hid (Rdr w2 r A1 n c1 xs pos E) := by obtain ⟨q, rfl⟩ := HW2.out; exact HD0.out
            have HB2 : Hid (Below w.heap.size w w2) := by obtain ⟨q, rfl⟩ := HW2.out; exact drewN_below HB0.out q
            have HX2 : Hid (Blk w2 wr.heap.size 42 [.int .i64 kk, .int .i64 nn]) := by obtain ⟨q, rfl⟩ := HW2.out; exact HX0.out
            have x0 : w2.cell? ⟨wr.heap.size, 0, none⟩ = some (.int .i64 kk) := HX2.out.cell 0
            have x1 : w2.cell? ⟨wr.heap.size, 1, none⟩ = some (.int .i64 nn) := HX2.out.cell 1
            have HAT2 := kept (at_any r A1 n c1 xs pos E w2 HD2.out)
            clear HW2
            go_wp2_with fail
            with_reducible refine HAT2.out.mono ?_
            rintro e w' ⟨rfl, rfl⟩
            go_wp2_with fail
            with_reducible refine (flag_step HD2.out (by omega) hpos).mono ?_
            rintro e w3 ⟨v, pos', err', rfl, HS⟩
            obtain ⟨rfl, rfl, rfl⟩ := HS.out.stays HNE.out
            have HAT3 := kept (at_any r A1 n c1 xs pos' err' w3 HS.out.rdr)
            have HAT4 := fun q => kept (at_any r A1 n c1 xs pos' err' (w3.drewN q) HS.out.rdr)
            have HE3 := kept (endR_any r A1 n c1 xs pos' err' w3 HS.out.rdr (by omega) hpos)
            have hEE : endE n pos' err' = err' := by unfold endE; rw [if_pos HNE.out]
            rw [hEE] at HE3
            have HB3 := kept (Only.below HB2.out HS.out.only HB2.out.size HRR.out)
            clear hEE
            go_wp2_with (first | (go_at_call 28; (with_reducible refine (HAT3.out).mono ?_); rintro e w' ⟨rfl, rfl⟩) | (go_at_call 27; (with_reducible refine (HE3.out).mono ?_); rintro e w' ⟨rfl, q, rfl⟩) | (go_at_call 28; (with_reducible refine ((HAT4 _).out).mono ?_); rintro e w' ⟨rfl, rfl⟩))
            go_roundw
            case rel => exact ⟨k + 1, pos', err', by omega, hpos, by go_num, HS.out.rdr, drewN_below HB3.out _⟩
            case measure => simp [intOf]; omega
      · obtain rfl : k = m := by omega
        have HN9 := kept (newReader_any (some ⟨wr.heap.size, 0, none⟩) 1 1 [9] (wr.alloc (.cells #[.int .u8 9] 5)) (Rd.of_own ((Blk.new wr 5 #[.int .u8 9]).own (xs := [9]) (base := 0) (n := 1) (Nat.zero_le _) rfl (by unfold maxLen; omega))) (by omega))
        have HB0 := kept (HB.out.alloc HB.out.size (.cells #[.int .u8 9] 5))
        go_wp2_with fail
        with_reducible refine HN9.out.mono ?_
        rintro e w2 ⟨r2, A2, c2, rfl, H2, hc2, hr2, hb2⟩
        have HE2 := kept (endR_any r2 A2 1 c2 [9] 0 0 w2 H2 (by omega) (by omega))
        have he : endE 1 0 0 = 5 := rfl
        rw [he] at HE2
        have HB2 := kept (HB0.out.trans (hb2.mono HB0.out.size))
        clear H2 hb2 he
        go_wp2_with (first | (go_at_call 27; (with_reducible refine (HE2.out).mono ?_); rintro e w' ⟨rfl, q, rfl⟩))
        go_ret
        exact ⟨rfl, drewN_below HB2.out _⟩
end Go.Proofs.Ytgjibjpnbdffjaa.octetsStops
