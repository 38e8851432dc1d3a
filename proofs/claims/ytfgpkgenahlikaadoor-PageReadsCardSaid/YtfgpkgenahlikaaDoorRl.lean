/-
  page.readList, three times, from any state of the reader.
-/
import Derived.Test.YtfgpkgenahlikaaDoorRk
import Derived.Test.YtfgpkgenahlikaaDoorOf
namespace Go.Proofs.YtfgpkgenahlikaaDoor
open Go.ChangeShapes Go.WideShapes Go.ChangeAt Go.RowKit
set_option linter.unusedVariables false
set_option linter.unusedSimpArgs false

theorem below_drewN (w : World) (q : Nat) : Below w.heap.size w (w.drewN q) := ⟨rfl, rfl, rfl, Nat.le_refl _, fun _ _ => rfl⟩
def rid (xs : List UInt8) (s : St) : Int × St := (((rnum xs 4 s).1 : Int), (rnum xs 4 s).2)
/-- So many things, or those up to the first that didn't go. -/
def rlist {α : Type} (one : St → α × St) : Nat → St → List α × St
  | 0, s => ([], s)
  | k + 1, s => if s.2 ≠ 0 then ([], s) else ((one s).1 :: (rlist one k (one s).2).1, (rlist one k (one s).2).2)
theorem rlist_next {α : Type} {one : St → α × St} {count i : Nat} {s t : St} {I : List α} (h : rlist one count s = (I ++ (rlist one (count - i) t).1, (rlist one (count - i) t).2)) (hi : i < count) (ht : t.2 = 0) :
    rlist one count s = (I ++ [(one t).1] ++ (rlist one (count - (i + 1)) (one t).2).1, (rlist one (count - (i + 1)) (one t).2).2) := by
  rw [h, show count - i = (count - (i + 1)) + 1 by omega]
  simp [rlist, ht]
def lenV : Value → Nat
  | .slice _ n _ => n
  | _ => 0
def RLs {Λ α : Type} (K : Sort' Λ α) (e : TypeId) (w : World) (r : Nat) (A : Option Addr) (n c : Nat) (xs : List UInt8) (one : St → α × St) (count : Nat) (s0 : St) (A' : Option Addr) (i c' : Nat) (wr : World) : Prop :=
  ∃ I s, RS wr r A n c xs s ∧ Only w wr r ∧ Ow K wr w.heap.size e (fun g => g < w.heap.size) A' i c' I ∧ rlist one count s0 = (I ++ (rlist one (count - i) s).1, (rlist one (count - i) s).2)
theorem RS.self {w : World} {r : Nat} {A : Option Addr} {n c : Nat} {xs : List UInt8} {s : St} (h : RS w r A n c xs s) : apartA A n r := fun a e h0 => by
  obtain ⟨a', e', hc⟩ := h.1.2.2 h0
  rw [e] at e'
  obtain rfl := Option.some.inj e'
  exact h.1.apart (hc 0 (by rw [h.len_]; exact h0))
theorem RS.back {w w2 w4 : World} {r : Nat} {A : Option Addr} {n c : Nat} {xs : List UInt8} {s t : St} (h : RS w r A n c xs s) (hw : RS w2 r A n c xs t) (ho : Only w w2 r) (hb : Below w.heap.size w2 w4) : RS w4 r A n c xs t ∧ Only w w4 r :=
  have k : Only w w4 r := ⟨hb.os.trans ho.os, hb.tape.trans ho.tape, hb.output.trans ho.output, Nat.le_trans ho.size hb.size, fun k hk hn => (hb.block k hk).trans (ho.block k hk hn)⟩
  ⟨⟨⟨(hb.block r h.lt).trans hw.1.1, h.1.2.only h.self k⟩, hw.2⟩, k⟩
theorem itemInfo : (Tryd.prog.info? 67).map (fun i => (i.zero, i.size, i.bytes)) = some (some (.agg #[.slice none 0 0, .slice none 0 0, .int .i64 0, .int .i64 0]), kItem.size, 64) := by kernel_rfl
theorem kidInfo : (Tryd.prog.info? 69).map (fun i => (i.zero, i.size, i.bytes)) = some (some (.agg #[.slice none 0 0, .int .i64 0]), kKid.size, 32) := by kernel_rfl
theorem numInfo : (Tryd.prog.info? 3).map (fun i => (i.zero, i.size, i.bytes)) = some (some (.int .i64 0), kNum.size, 8) := by kernel_rfl
theorem new_cells1 (w : World) (v0 : Value) (t : TypeId) (j : Nat) (u : Value) (h : [v0][j]? = some u) : (w.alloc (.cells #[v0] t)).cell? ((⟨w.heap.size, 0, none⟩ : Addr).add j) = some u := by
  rw [add_at, Nat.zero_add, cell_of_row _ w.heap.size j _ _ _ (heap_alloc_new w _)]
  simpa using h
theorem end_more (r : Nat) (A : Option Addr) (n c : Nat) (xs : List UInt8) (s : St) (w : World) (h : RS w r A n c xs s) (hs : s.2 = 0) :
    Calls Tryd.prog 51 #[.pointer (some ⟨r, 0, none⟩)] w fun e w' => ∃ z : Int, e = .returned (.int .i64 z) ∧ Hid ((z != 3) = true) ∧ Hid (∃ q, w' = w.drewN q) := by
  refine (endR_any r A n c xs s.1 s.2 w h.1 h.2.2.2.2 h.2.1).mono ?_
  rintro e w' ⟨rfl, hq⟩
  refine ⟨_, rfl, ?_, hq⟩
  show _ = _
  rw [hs]
  unfold endE
  simp only [ne_eq, not_true_eq_false, if_false]
  split <;> decide
theorem end_stop (r : Nat) (A : Option Addr) (n c : Nat) (xs : List UInt8) (s : St) (w : World) (h : RS w r A n c xs s) (hs : s.2 ≠ 0) :
    Calls Tryd.prog 51 #[.pointer (some ⟨r, 0, none⟩)] w fun e w' => e = .returned (.int .i64 3) ∧ Hid (∃ q, w' = w.drewN q) := by
  refine (endR_any r A n c xs s.1 s.2 w h.1 h.2.2.2.2 h.2.1).mono ?_
  rintro e w' ⟨rfl, hq⟩
  have h3 : s.2 = 3 := by rcases h.2.2.1 with e | e; exact absurd e hs; exact e
  exact ⟨by rw [h3]; rfl, hq⟩
theorem readID_rid (r : Nat) (A : Option Addr) (n c : Nat) (xs : List UInt8) (s : St) (w : World) (h : RS w r A n c xs s) :
    Calls Tryd.prog 84 #[.pointer (some ⟨r, 0, none⟩)] w fun e w' => e = .returned (.int .i64 (rid xs s).1) ∧ Hid (RS w' r A n c xs (rid xs s).2 ∧ Only w w' r) := readID_any r A n c xs s w h

set_option maxHeartbeats 1000000 in
theorem readListN_any (r : Nat) (A : Option Addr) (n c : Nat) (xs : List UInt8) (s : St) (count : Nat) (w : World) (h : RS w r A n c xs s) (hc : count ≤ 65535) :
    Calls Tryd.prog 89 #[.pointer (some ⟨r, 0, none⟩), .int .i64 (count : Int), .func (.func 84) #[] #[]] w fun e w' => ∃ A' i c', e = .returned (.slice A' i c') ∧ Hid (Ow kNum w' w.heap.size 3 (fun g => g < w.heap.size) A' i c' (rlist (rid xs) count s).1 ∧ RS w' r A n c xs (rlist (rid xs) count s).2 ∧ Only w w' r ∧ i ≤ count) := by
  have HLT := kept h.lt
  have H0 := kept h
  have hst : Hid (RLs kNum 3 w r A n c xs (rid xs) count s none 0 0 w) := kept ⟨[], s, h, Only.refl _ _, Ow.nil_ _, by simp⟩
  clear h
  go_enter Tryd.func89, Tryd.ntmps89
  go_wp2
  go_loopw [7] (fun v wr => ∃ (A' : Option Addr) (i c' : Nat), i ≤ count ∧ v = .slice A' i c' ∧ Hid (RLs kNum 3 w r A n c xs (rid xs) count s A' i c' wr)) (fun v _ => count - lenV v)
  case atStart => exact ⟨none, 0, 0, by omega, rfl, hst⟩
  case round =>
    obtain ⟨A', i, c', hi, rfl, HST⟩ := hrel
    by_cases hlt : i < count
    · obtain ⟨I, t, hr, ho, how, heq⟩ := HST.out
      have hd : decide (i < count) = true := by simp [hlt]
      by_cases ht : t.2 = 0
      · have HE := kept (end_more r A n c xs t wr hr ht)
        have HN := fun q => readID_rid r A n c xs t (wr.drewN q) (hr.drewN q)
        have HEQ := kept (rlist_next (one := rid xs) heq (by omega) ht)
        obtain ⟨s', hs'⟩ : ∃ v, (rid xs t).2 = v := ⟨_, rfl⟩
        obtain ⟨y, hy⟩ : ∃ v, (rid xs t).1 = v := ⟨_, rfl⟩
        rw [hs', hy] at HEQ
        simp only [hs', hy] at HN
        have HN := fun q => kept (HN q)
        have HON := kept ho
        have HOW := kept how
        clear hr ho how heq HST hs' hy ht
        go_wp2_with fail
        with_reducible refine HE.out.mono ?_
        rintro e w1 ⟨z, rfl, hz, hq⟩
        obtain ⟨q, rfl⟩ := hq.out
        have hz1 := hz.out
        go_wp2_with fail
        with_reducible refine (HN _).out.mono ?_
        rintro e w2 ⟨rfl, hR2, hO2⟩
        have HY : Hid (kNum.R (w2.alloc (.cells #[.int .i64 y] 3)) y y ∧ ∀ g, g < wr.heap.size → kNum.apart y g) := kept ⟨rfl, fun _ _ => trivial⟩
        have HO2 := kept ((HON.out.drewN q).trans hO2)
        have hw2 : Ow kNum w2 w.heap.size 3 (fun g => g < w.heap.size) A' i c' I := (HOW.out.below (below_drewN _ q)).turn hO2 (.inl HLT.out)
        have HW2 := kept (hw2.below ((Below.refl _ w2).alloc (Nat.le_refl _) (.cells #[.int .i64 y] 3)))
        have HR2 := kept hR2
        clear hz hq hz1 hw2 hR2 hO2
        go_wp2_with (first | (at_builtin; refine wpList_append_ow (K := kNum) (F := fun g => g < w.heap.size) rfl (.tmp 17) (.tmp 21) 26 rfl Tryd.underlying26 numInfo rfl rfl HW2.out ⟨w2.heap.size, 0, none⟩ 1 y y rfl (fun j u hu => new_cells1 w2 (.int .i64 y) 3 j u hu) HY.out.1 (fun g e => HY.out.2 g (by have := (HOW.out.lt e).2; exact this)) (fun g e => HY.out.2 g (Nat.lt_of_lt_of_le e HON.out.size)) (fun g e => Nat.lt_of_lt_of_le (Nat.lt_of_lt_of_le e HO2.out.size) ((Below.refl _ w2).alloc (Nat.le_refl _) _).size) (by unfold maxLen; omega) (by omega) (Nat.le_trans HO2.out.size ((Below.refl _ w2).alloc (Nat.le_refl _) _).size) ?_; intro A4 c4' w4 how4 hb4 hk4; have HNX : Hid (RLs kNum 3 w r A n c xs (rid xs) count s A4 (i + 1) c4' w4) := kept (by have hb := H0.out.back (HR2.out.alloc _) (HO2.out.alloc _) hb4; exact ⟨I ++ [y], s', hb.1, hb.2, how4, by rw [← Nat.sub_sub] at *; exact HEQ.out⟩); clear how4 hb4 hk4))
        go_roundw
        case rel => exact ⟨A4, i + 1, c4', by omega, rfl, HNX⟩
        case measure => simp [lenV]; omega
      · have HE := kept (end_stop r A n c xs t wr hr ht)
        have hfin : rlist (rid xs) count s = (I, t) := by
          rw [heq, show count - i = (count - i - 1) + 1 by omega]
          simp [rlist, ht]
        have HFI := kept hfin
        have HRR := fun q => kept (And.intro (hr.drewN q) (ho.drewN q))
        have HOW := fun q => kept (how.below (below_drewN _ q))
        clear hr ho how heq HST ht hfin
        go_wp2_with fail
        with_reducible refine HE.out.mono ?_
        rintro e w1 ⟨rfl, hq⟩
        obtain ⟨q, rfl⟩ := hq.out
        go_wp2
        go_ret
        rw [HFI.out]
        exact ⟨A', i, c', rfl, (HOW q).out, (HRR q).out.1, (HRR q).out.2, hi⟩
    · obtain rfl : i = count := by omega
      obtain ⟨I, t, hr, ho, how, heq⟩ := HST.out
      have hfin : rlist (rid xs) i s = (I, t) := by
        rw [heq, Nat.sub_self]
        simp [rlist]
      have HFI := kept hfin
      have HF := kept (And.intro how (And.intro hr ho))
      clear hr ho how heq HST hfin
      go_wp2
      go_ret
      rw [HFI.out]
      exact ⟨A', i, c', rfl, HF.out.1, HF.out.2.1, HF.out.2.2, hi⟩

set_option maxHeartbeats 1000000 in
theorem readListK_any (r : Nat) (A : Option Addr) (n c : Nat) (xs : List UInt8) (s : St) (count : Nat) (w : World) (h : RS w r A n c xs s) (hc : count ≤ 65535) :
    Calls Tryd.prog 87 #[.pointer (some ⟨r, 0, none⟩), .int .i64 (count : Int), .func (.func 88) #[] #[]] w fun e w' => ∃ A' i c', e = .returned (.slice A' i c') ∧ Hid (Ow kKid w' w.heap.size 69 (fun g => g < w.heap.size) A' i c' (rlist (rkid xs) count s).1 ∧ RS w' r A n c xs (rlist (rkid xs) count s).2 ∧ Only w w' r ∧ i ≤ count) := by
  have HLT := kept h.lt
  have H0 := kept h
  have hst : Hid (RLs kKid 69 w r A n c xs (rkid xs) count s none 0 0 w) := kept ⟨[], s, h, Only.refl _ _, Ow.nil_ _, by simp⟩
  clear h
  go_enter Tryd.func87, Tryd.ntmps87
  go_wp2
  go_loopw [7] (fun v wr => ∃ (A' : Option Addr) (i c' : Nat), i ≤ count ∧ v = .slice A' i c' ∧ Hid (RLs kKid 69 w r A n c xs (rkid xs) count s A' i c' wr)) (fun v _ => count - lenV v)
  case atStart => exact ⟨none, 0, 0, by omega, rfl, hst⟩
  case round =>
    obtain ⟨A', i, c', hi, rfl, HST⟩ := hrel
    by_cases hlt : i < count
    · obtain ⟨I, t, hr, ho, how, heq⟩ := HST.out
      have hd : decide (i < count) = true := by simp [hlt]
      by_cases ht : t.2 = 0
      · have HE := kept (end_more r A n c xs t wr hr ht)
        have HN := fun q => readKid_any r A n c xs t (wr.drewN q) (hr.drewN q)
        have HEQ := kept (rlist_next (one := rkid xs) heq (by omega) ht)
        obtain ⟨s', hs'⟩ : ∃ v, (rkid xs t).2 = v := ⟨_, rfl⟩
        obtain ⟨y, hy⟩ : ∃ v, (rkid xs t).1 = v := ⟨_, rfl⟩
        rw [hs', hy] at HEQ
        simp only [hs', hy] at HN
        have HN := fun q => kept (HN q)
        have HON := kept ho
        have HOW := kept how
        clear hr ho how heq HST hs' hy ht
        go_wp2_with fail
        with_reducible refine HE.out.mono ?_
        rintro e w1 ⟨z, rfl, hz, hq⟩
        obtain ⟨q, rfl⟩ := hq.out
        have hz1 := hz.out
        go_wp2_with fail
        with_reducible refine (HN _).out.mono ?_
        rintro e w2 ⟨⟨ka, kn, kc, pg⟩, rfl, hy2, hR2, hO2⟩
        have HY : Hid (kKid.R (w2.alloc (.cells #[.slice ka kn kc, .int .i64 pg] 69)) ⟨ka, kn, kc, pg⟩ y ∧ ∀ g, g < wr.heap.size → kKid.apart ⟨ka, kn, kc, pg⟩ g) := kept ⟨hy2.1.below ((Below.refl _ w2).alloc (Nat.le_refl _) _), fun g hg => hy2.2 g hg⟩
        have HO2 := kept ((HON.out.drewN q).trans hO2)
        have hw2 : Ow kKid w2 w.heap.size 69 (fun g => g < w.heap.size) A' i c' I := (HOW.out.below (below_drewN _ q)).turn hO2 (.inl HLT.out)
        have HW2 := kept (hw2.below ((Below.refl _ w2).alloc (Nat.le_refl _) (.cells #[.slice ka kn kc, .int .i64 pg] 69)))
        have HR2 := kept hR2
        clear hz hq hz1 hw2 hR2 hO2
        go_wp2_with (first | (at_builtin; refine wpList_append_ow (K := kKid) (F := fun g => g < w.heap.size) rfl (.tmp 17) (.tmp 21) 24 rfl Tryd.underlying24 kidInfo rfl rfl HW2.out ⟨w2.heap.size, 0, none⟩ 1 ⟨ka, kn, kc, pg⟩ y rfl (fun j u hu => new_cells2 w2 (.slice ka kn kc) (.int .i64 pg) 69 j u hu) HY.out.1 (fun g e => HY.out.2 g (by have := (HOW.out.lt e).2; exact this)) (fun g e => HY.out.2 g (Nat.lt_of_lt_of_le e HON.out.size)) (fun g e => Nat.lt_of_lt_of_le (Nat.lt_of_lt_of_le e HO2.out.size) ((Below.refl _ w2).alloc (Nat.le_refl _) _).size) (by unfold maxLen; omega) (by omega) (Nat.le_trans HO2.out.size ((Below.refl _ w2).alloc (Nat.le_refl _) _).size) ?_; intro A4 c4' w4 how4 hb4 hk4; have HNX : Hid (RLs kKid 69 w r A n c xs (rkid xs) count s A4 (i + 1) c4' w4) := kept (by have hb := H0.out.back (HR2.out.alloc _) (HO2.out.alloc _) hb4; exact ⟨I ++ [y], s', hb.1, hb.2, how4, by rw [← Nat.sub_sub] at *; exact HEQ.out⟩); clear how4 hb4 hk4))
        go_roundw
        case rel => exact ⟨A4, i + 1, c4', by omega, rfl, HNX⟩
        case measure => simp [lenV]; omega
      · have HE := kept (end_stop r A n c xs t wr hr ht)
        have hfin : rlist (rkid xs) count s = (I, t) := by
          rw [heq, show count - i = (count - i - 1) + 1 by omega]
          simp [rlist, ht]
        have HFI := kept hfin
        have HRR := fun q => kept (And.intro (hr.drewN q) (ho.drewN q))
        have HOW := fun q => kept (how.below (below_drewN _ q))
        clear hr ho how heq HST ht hfin
        go_wp2_with fail
        with_reducible refine HE.out.mono ?_
        rintro e w1 ⟨rfl, hq⟩
        obtain ⟨q, rfl⟩ := hq.out
        go_wp2
        go_ret
        rw [HFI.out]
        exact ⟨A', i, c', rfl, (HOW q).out, (HRR q).out.1, (HRR q).out.2, hi⟩
    · obtain rfl : i = count := by omega
      obtain ⟨I, t, hr, ho, how, heq⟩ := HST.out
      have hfin : rlist (rkid xs) i s = (I, t) := by
        rw [heq, Nat.sub_self]
        simp [rlist]
      have HFI := kept hfin
      have HF := kept (And.intro how (And.intro hr ho))
      clear hr ho how heq HST hfin
      go_wp2
      go_ret
      rw [HFI.out]
      exact ⟨A', i, c', rfl, HF.out.1, HF.out.2.1, HF.out.2.2, hi⟩

set_option maxHeartbeats 1000000 in
theorem readListI_any (r : Nat) (A : Option Addr) (n c : Nat) (xs : List UInt8) (s : St) (count : Nat) (w : World) (h : RS w r A n c xs s) (hc : count ≤ 65535) :
    Calls Tryd.prog 85 #[.pointer (some ⟨r, 0, none⟩), .int .i64 (count : Int), .func (.func 86) #[] #[]] w fun e w' => ∃ A' i c', e = .returned (.slice A' i c') ∧ Hid (Ow kItem w' w.heap.size 67 (fun g => g < w.heap.size) A' i c' (rlist (ritem xs) count s).1 ∧ RS w' r A n c xs (rlist (ritem xs) count s).2 ∧ Only w w' r ∧ i ≤ count) := by
  have HLT := kept h.lt
  have H0 := kept h
  have hst : Hid (RLs kItem 67 w r A n c xs (ritem xs) count s none 0 0 w) := kept ⟨[], s, h, Only.refl _ _, Ow.nil_ _, by simp⟩
  clear h
  go_enter Tryd.func85, Tryd.ntmps85
  go_wp2
  go_loopw [7] (fun v wr => ∃ (A' : Option Addr) (i c' : Nat), i ≤ count ∧ v = .slice A' i c' ∧ Hid (RLs kItem 67 w r A n c xs (ritem xs) count s A' i c' wr)) (fun v _ => count - lenV v)
  case atStart => exact ⟨none, 0, 0, by omega, rfl, hst⟩
  case round =>
    obtain ⟨A', i, c', hi, rfl, HST⟩ := hrel
    by_cases hlt : i < count
    · obtain ⟨I, t, hr, ho, how, heq⟩ := HST.out
      have hd : decide (i < count) = true := by simp [hlt]
      by_cases ht : t.2 = 0
      · have HE := kept (end_more r A n c xs t wr hr ht)
        have HN := fun q => readItem_any r A n c xs t (wr.drewN q) (hr.drewN q)
        have HEQ := kept (rlist_next (one := ritem xs) heq (by omega) ht)
        obtain ⟨s', hs'⟩ : ∃ v, (ritem xs t).2 = v := ⟨_, rfl⟩
        obtain ⟨y, hy⟩ : ∃ v, (ritem xs t).1 = v := ⟨_, rfl⟩
        rw [hs', hy] at HEQ
        simp only [hs', hy] at HN
        have HN := fun q => kept (HN q)
        have HON := kept ho
        have HOW := kept how
        clear hr ho how heq HST hs' hy ht
        go_wp2_with fail
        with_reducible refine HE.out.mono ?_
        rintro e w1 ⟨z, rfl, hz, hq⟩
        obtain ⟨q, rfl⟩ := hq.out
        have hz1 := hz.out
        go_wp2_with fail
        with_reducible refine (HN _).out.mono ?_
        rintro e w2 ⟨⟨ka, kn, kc, va, vn, vc, sz, mo⟩, rfl, hy2, hR2, hO2⟩
        have HY : Hid (kItem.R (w2.alloc (.cells #[.slice ka kn kc, .slice va vn vc, .int .i64 sz, .int .i64 mo] 67)) ⟨ka, kn, kc, va, vn, vc, sz, mo⟩ y ∧ ∀ g, g < wr.heap.size → kItem.apart ⟨ka, kn, kc, va, vn, vc, sz, mo⟩ g) := kept ⟨hy2.1.below ((Below.refl _ w2).alloc (Nat.le_refl _) _), fun g hg => ⟨hy2.2.1 g hg, hy2.2.2 g hg⟩⟩
        have HO2 := kept ((HON.out.drewN q).trans hO2)
        have hw2 : Ow kItem w2 w.heap.size 67 (fun g => g < w.heap.size) A' i c' I := (HOW.out.below (below_drewN _ q)).turn hO2 (.inl HLT.out)
        have HW2 := kept (hw2.below ((Below.refl _ w2).alloc (Nat.le_refl _) (.cells #[.slice ka kn kc, .slice va vn vc, .int .i64 sz, .int .i64 mo] 67)))
        have HR2 := kept hR2
        clear hz hq hz1 hw2 hR2 hO2
        go_wp2_with (first | (at_builtin; refine wpList_append_ow (K := kItem) (F := fun g => g < w.heap.size) rfl (.tmp 17) (.tmp 21) 23 rfl Tryd.underlying23 itemInfo rfl rfl HW2.out ⟨w2.heap.size, 0, none⟩ 1 ⟨ka, kn, kc, va, vn, vc, sz, mo⟩ y rfl (fun j u hu => new_cells4 w2 (.slice ka kn kc) (.slice va vn vc) (.int .i64 sz) (.int .i64 mo) 67 j u hu) HY.out.1 (fun g e => HY.out.2 g (by have := (HOW.out.lt e).2; exact this)) (fun g e => HY.out.2 g (Nat.lt_of_lt_of_le e HON.out.size)) (fun g e => Nat.lt_of_lt_of_le (Nat.lt_of_lt_of_le e HO2.out.size) ((Below.refl _ w2).alloc (Nat.le_refl _) _).size) (by unfold maxLen; omega) (by omega) (Nat.le_trans HO2.out.size ((Below.refl _ w2).alloc (Nat.le_refl _) _).size) ?_; intro A4 c4' w4 how4 hb4 hk4; have HNX : Hid (RLs kItem 67 w r A n c xs (ritem xs) count s A4 (i + 1) c4' w4) := kept (by have hb := H0.out.back (HR2.out.alloc _) (HO2.out.alloc _) hb4; exact ⟨I ++ [y], s', hb.1, hb.2, how4, by rw [← Nat.sub_sub] at *; exact HEQ.out⟩); clear how4 hb4 hk4))
        go_roundw
        case rel => exact ⟨A4, i + 1, c4', by omega, rfl, HNX⟩
        case measure => simp [lenV]; omega
      · have HE := kept (end_stop r A n c xs t wr hr ht)
        have hfin : rlist (ritem xs) count s = (I, t) := by
          rw [heq, show count - i = (count - i - 1) + 1 by omega]
          simp [rlist, ht]
        have HFI := kept hfin
        have HRR := fun q => kept (And.intro (hr.drewN q) (ho.drewN q))
        have HOW := fun q => kept (how.below (below_drewN _ q))
        clear hr ho how heq HST ht hfin
        go_wp2_with fail
        with_reducible refine HE.out.mono ?_
        rintro e w1 ⟨rfl, hq⟩
        obtain ⟨q, rfl⟩ := hq.out
        go_wp2
        go_ret
        rw [HFI.out]
        exact ⟨A', i, c', rfl, (HOW q).out, (HRR q).out.1, (HRR q).out.2, hi⟩
    · obtain rfl : i = count := by omega
      obtain ⟨I, t, hr, ho, how, heq⟩ := HST.out
      have hfin : rlist (ritem xs) i s = (I, t) := by
        rw [heq, Nat.sub_self]
        simp [rlist]
      have HFI := kept hfin
      have HF := kept (And.intro how (And.intro hr ho))
      clear hr ho how heq HST hfin
      go_wp2
      go_ret
      rw [HFI.out]
      exact ⟨A', i, c', rfl, HF.out.1, HF.out.2.1, HF.out.2.2, hi⟩
end Go.Proofs.YtfgpkgenahlikaaDoor
