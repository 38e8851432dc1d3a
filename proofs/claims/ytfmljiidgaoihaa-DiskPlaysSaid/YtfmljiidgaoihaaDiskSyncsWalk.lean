/-
  The walk of the law DiskSyncs.
-/
import Derived.Test.YtfmljiidgaoihaaDi
namespace Go.Proofs.Ytfmljiidgaoihaa
open Go.ChangeShapes Go.WideShapes Go.ChangeAt Go.RowKit
set_option linter.unusedVariables false
/-- The k-th act of a slice of acts. -/
def acOf (K P N X : Nat → Int) (k : Nat) : Ac := ⟨K k, P k, N k, X k⟩
theorem acOf_ok {w : World} {A : Option Addr} {n : Nat} {K P N X : Nat → Int} (h : RdActs w A n K P N X) {k : Nat} (hk : k < n) : (acOf K P N X k).ok := by
  obtain ⟨⟨h0, h1, h2⟩, h3, h4⟩ := h.2 k hk
  exact ⟨Wf.of_wf h0, Wf.of_wf h1, Wf.of_wf h2, h3, h4⟩
theorem do_act (d : Dk) (S : St) (K P N X : Int) (w : World) (h : Dsk w d S) (ha : (⟨K, P, N, X⟩ : Ac).ok) (hd : S.done ≤ 1000000) :
    Calls Try.prog 30 #[.pointer (some ⟨d.r, 0, none⟩), .agg #[.int .i64 K, .int .i64 P, .int .i64 N, .int .u8 X]] w fun e w' => e = .returned (.tuple #[]) ∧ Hid (Left w d (S.act ⟨K, P, N, X⟩) w') := do_any d S ⟨K, P, N, X⟩ w h ha hd
theorem crash_page (S : St) (hc : ∀ x, S.cache x = none) {p : Nat} (hp : p < S.pages.length) (l : List (Int × Int)) : (S.crash l).page (p : Int) = S.page (p : Int) := by
  have e1 : (S.crash l).page (p : Int) = (laid S (S.torn l) (fun _ => false)).getD p [] := rfl
  have e2 : S.page (p : Int) = S.pages.getD p [] := by
    unfold St.page
    rw [hc]
    rfl
  rw [e1, e2, List.getD_eq_getElem?_getD, List.getElem?_eq_getElem (by rw [laid_length]; exact hp)]
  simp only [laid, List.getElem_map, List.getElem_range, Option.getD_some]
  rw [if_neg (by rw [hc]; simp)]
theorem img_same (S T : St) (k : Nat) (h : ∀ p : Nat, p < k → S.page (p : Int) = T.page (p : Int)) : img S k = img T k := by
  induction k with
  | zero => rfl
  | succ k ih => rw [img_succ, img_succ, ih (fun p hp => h p (by omega)), h k (by omega)]
namespace diskSyncs
def Loop (W : World) (d : Dk) (k : Nat) (wr : World) : Prop := ∃ S, Dsk wr d S ∧ S.pages.length = 16 ∧ S.done ≤ k ∧ Below W.heap.size W wr
set_option maxHeartbeats 1000000 in
theorem walk (w : World) (A : Option Addr) (n c : Nat) (hnc : n ≤ c) (hcm : c ≤ maxLen) (K P N X : Nat → Int) (hr : RdActs w A n K P N X) :
    Calls Try.prog 9 #[.slice A n c] w fun e w' => e = .returned (.bool true) ∧ Below w.heap.size w w' := by
  by_cases hbig : 60 < n
  · have hd : (60 : Int) < (n : Int) := by omega
    clear hr hcm hbig
    go_enter Try.func9, Try.ntmps9
    go_wp2_with (first | (go_at_call 10; (with_reducible refine (new16 _).mono ?_); rintro e w1 ⟨d, rfl, hd1, hn1, hb1⟩; have HB1 := kept hb1; clear hd1 hn1 hb1))
    go_wp2_with fail
    with_reducible refine (lives_any _).mono ?_
    rintro e w2 ⟨rfl, hb2⟩
    have HB2 := kept hb2
    clear hb2
    go_wp2_with fail
    with_reducible refine (lives_any _).mono ?_
    rintro e w3 ⟨rfl, hb3⟩
    have HB3 := kept hb3
    clear hb3
    go_wp2
    go_ret
    exact ⟨rfl, (HB1.out.trans (HB2.out.mono HB1.out.size)).trans (HB3.out.mono (Nat.le_trans HB1.out.size HB2.out.size))⟩
  · have hd : ¬ (60 : Int) < (n : Int) := by omega
    have HR := kept hr
    clear hr hcm
    go_enter Try.func9, Try.ntmps9
    go_wp2_with (first | (go_at_call 10; (with_reducible refine (new16 _).mono ?_); rintro e w1 ⟨d, rfl, hd1, hn1, hb1⟩; have HD1 := kept hd1; have HN1 := kept hn1; have HB1 := kept hb1; clear hd1 hn1 hb1))
    go_wp2_with (first | (go_at_call 11; (with_reducible refine (lives_any _).mono ?_); rintro e w2 ⟨rfl, hb2⟩; have HB2 := kept hb2; clear hb2))
    have HS : Hid (Loop w d 0 w2) := kept ⟨_, HD1.out.below HB2.out, fresh_len 16, Nat.le_refl _, HB1.out.trans (HB2.out.mono HB1.out.size)⟩
    go_loopw [21] (fun i wr => ∃ k : Nat, k ≤ n ∧ i = .int .i64 (k : Int) ∧ Loop w d k wr) (fun i _ => n - (intOf i).toNat)
    case atStart => exact ⟨0, Nat.zero_le _, rfl, HS.out⟩
    case round =>
      obtain ⟨k, hkn, rfl, S, hd, hl, hdn, hb⟩ := hrel
      have HD := kept hd
      have HL := kept hl
      have HDN := kept hdn
      have HB := kept hb
      clear hd hl hdn hb
      by_cases hlt : k < n
      · obtain ⟨b, o, rfl, c0, c1, c2, c3⟩ := (HR.out.below HB.out).there hlt
        have HDO := kept (do_act d S (K k) (P k) (N k) (X k) (wr.alloc (.cells #[.int .i64 (K k), .int .i64 (P k), .int .i64 (N k), .int .u8 (X k)] 42)) (HD.out.below ((Below.refl _ wr).alloc (Nat.le_refl _) _)) (acOf_ok HR.out hlt) (by have := HDN.out; omega))
        go_wp2_with (first | (go_at_call 30; (with_reducible refine (HDO.out).mono ?_); rintro e w3 ⟨rfl, h3⟩))
        have B1 : Below w.heap.size w (wr.alloc (.cells #[.int .i64 (K k), .int .i64 (P k), .int .i64 (N k), .int .u8 (X k)] 42)) := HB.out.alloc HB.out.size _
        have HE : Hid (Loop w d (k + 1) w3) := kept ⟨_, h3.out.1, (act_len _ _).trans HL.out, Nat.le_trans (act_done _ _) (by have := HDN.out; omega), Turned.only_new B1 h3.out.2 B1.size HN1.out⟩
        clear h3 B1
        go_roundw
        case rel => exact ⟨k + 1, by omega, by go_num, HE.out⟩
        case measure => simp [intOf]; omega
      · obtain rfl : k = n := by omega
        by_cases hf : S.fuse = 0
        · have HSY := kept (sync_no d S wr HD.out hf)
          go_wp2_with (first | (go_at_call 17; (with_reducible refine (HSY.out).mono ?_); rintro e w4 ⟨rfl, rfl⟩))
          go_ret
          exact ⟨rfl, HB.out⟩
        · have HSY := kept (sync_ok d S wr HD.out hf (by have := HDN.out; omega))
          go_wp2_with (first | (go_at_call 17; (with_reducible refine (HSY.out).mono ?_); rintro e w4 ⟨rfl, h4⟩))
          have HD4 := kept h4.out.1
          have HB4 : Hid (Below w.heap.size w w4) := kept (Turned.only_new HB.out h4.out.2 HB.out.size HN1.out)
          clear h4
          by_cases hf4 : S.sync.fuse = 0
          · have HI := kept (image_dead d S.sync w4 HD4.out hf4)
            go_wp2_with (first | (go_at_call 31; (with_reducible refine (HI.out).mono ?_); rintro e w5 ⟨rfl, rfl⟩))
            go_wp2_with (first | (go_at_call 14; (with_reducible refine (crash_any d S.sync none 0 0 [] w4 HD4.out (kp_nil w4) (by omega)).mono ?_); rintro e w5 ⟨rfl, h5⟩))
            have HI2 := kept (image_ok d (S.sync.crash []) w5 h5.out.1 (by show (-1 : Int) ≠ 0; omega))
            go_wp2_with (first | (go_at_call 31; (with_reducible refine (HI2.out).mono ?_); rintro e w6 ⟨A6, c6, rfl, hr6, hb6, hn6⟩; have HB6 := kept hb6; clear hr6 hb6 hn6))
            go_ret
            have B5 : Below w.heap.size w w5 := Turned.only_new HB4.out h5.out.2 HB4.out.size HN1.out
            exact ⟨rfl, B5.trans (HB6.out.mono B5.size)⟩
          · have HI := kept (image_ok d S.sync w4 HD4.out hf4)
            go_wp2_with (first | (go_at_call 31; (with_reducible refine (HI.out).mono ?_); rintro e w5 ⟨A5, c5, rfl, hr5, hb5, hn5⟩; have HR5 := kept hr5; have HB5 := kept hb5; have HN5 := kept hn5; clear hr5 hb5 hn5))
            go_wp2_with (first | (go_at_call 14; (with_reducible refine (crash_any d S.sync none 0 0 [] w5 (HD4.out.below HB5.out) (kp_nil w5) (by omega)).mono ?_); rintro e w6 ⟨rfl, h6⟩))
            have HI2 := kept (image_ok d (S.sync.crash []) w6 h6.out.1 (by show (-1 : Int) ≠ 0; omega))
            go_wp2_with (first | (go_at_call 31; (with_reducible refine (HI2.out).mono ?_); rintro e w7 ⟨A7, c7, rfl, hr7, hb7, hn7⟩; have HR7 := kept hr7; have HB7 := kept hb7; clear hr7 hb7 hn7))
            have HR6 : Hid (Rd w6 A5 (S.sync.pages.length * 256) (img S.sync S.sync.pages.length)) := kept (h6.out.2.rd HR5.out (fun a ha ho => by have h1 := HN5.out a ha; have h2 := HD4.out.lt _ ho; omega))
            have HSM := kept (same_any A5 A7 _ _ c5 c7 _ _ w7 (HR6.out.below HB7.out) HR7.out true (by
              rw [crash_len, img_same S.sync (S.sync.crash []) _ (fun p hp => (crash_page S.sync (fun _ => rfl) hp []).symm)]
              simp))
            go_wp2_with (first | (go_at_call 25; (with_reducible refine (HSM.out).mono ?_); rintro e w' ⟨rfl, rfl⟩))
            go_ret
            have B5 := HB4.out.trans (HB5.out.mono HB4.out.size)
            have B6 : Below w.heap.size w w6 := Turned.only_new B5 h6.out.2 B5.size HN1.out
            exact ⟨rfl, B6.trans (HB7.out.mono B6.size)⟩
end diskSyncs
end Go.Proofs.Ytfmljiidgaoihaa
