/-
  What octets.End, In, endless and the library's Clone and the document's own Full, End and In answer, call by call.
-/
import Derived.Test.YtgjibjpnbdffjaaGet
import Derived.Test.YtgjibjpnbdffjaaCmp
namespace Go.Proofs.Ytgjibjpnbdffjaa
open Go.ChangeShapes Go.WideShapes Go.ChangeAt Go.RowKit
set_option linter.unusedVariables false

theorem clone_any (A : Option Addr) (n c : Nat) (xs : List UInt8) (w : World) (hr : Rd w A n xs) (hl : n ≤ 140737488355328) :
    Calls Try.prog 37 #[.slice A n c] w fun e w' => ∃ A' c', e = .returned (.slice A' n c') ∧ w'.ownsRow w.heap.size 5 1 (.slice A' n c') n (cellsOf xs) ∧ Below w.heap.size w w' := by
  have q : ∀ (w : World) (a : Option Addr) (n c n' c' : Nat), (binOp .eql 23 (.slice a n c) (.slice none n' c')).run Try.prog w = .ok (.bool a.isNone) w := fun w a n c n' c' => Lib.run_eql_slice_nil w _ _ a n c n' c' Try.underlying23
  rcases A with _ | a
  · have hn : n = 0 := by
      rcases Nat.eq_zero_or_pos n with h | h
      · exact h
      · obtain ⟨a, e, _⟩ := hr.2 h
        cases e
    subst hn
    obtain rfl : xs = [] := List.eq_nil_of_length_eq_zero hr.1
    clear hr
    go_enter Try.func37, Try.ntmps37
    go_wp2
    go_ret
    exact ⟨none, 0, rfl, World.ownsRow_nil _ _ _ _, Below.refl _ _⟩
  · have HO := kept (World.ownsRow_made (base := w.heap.size) (e := 5) (size := 1) w #[] 0 (Nat.le_refl _) (Nat.zero_le _) rfl)
    have HR := kept (hr.alloc (.cells #[] 5))
    have HB := kept ((Below.refl w.heap.size w).alloc (Nat.le_refl _) (.cells #[] 5))
    clear hr
    go_enter Try.func37, Try.ntmps37
    go_wp2_with (at_builtin; refine wpList_append_rd (xs := []) rfl _ _ 23 rfl w.heap.size 5 rfl rfl Try.underlying23 u8info HO.out HR.out (by omega) (by simp) ?_; intro A' c' w1 hown1 hb1; have HO1 := kept hown1; have HB1 := kept hb1; clear hown1 hb1)
    go_ret
    have e : 0 + n = n := by omega
    have h1 := HO1.out
    rw [List.nil_append, e] at h1
    exact ⟨A', c', by simp, h1, HB.out.trans HB1.out⟩

/-- Every row of bytes is of 255s alone, or ends in 255s behind one other byte. -/
theorem tail_cases : ∀ xs : List UInt8, (∀ x ∈ xs, x = 255) ∨ ∃ (p : List UInt8) (x : UInt8) (k : Nat), xs = p ++ x :: List.replicate k 255 ∧ x ≠ 255
  | [] => .inl (by simp)
  | y :: r => by
    rcases tail_cases r with h | ⟨p, x, k, rfl, hx⟩
    · by_cases e : y = 255
      · refine .inl ?_
        intro z hz
        rcases List.mem_cons.1 hz with h' | h'
        · rw [h', e]
        · exact h z h'
      · exact .inr ⟨[], y, r.length, by rw [List.nil_append, ← List.eq_replicate_iff.2 ⟨rfl, h⟩], e⟩
    · exact .inr ⟨y :: p, x, k, rfl, hx⟩
theorem full_get {xs : List UInt8} (h : ∀ x ∈ xs, x = 255) {i : Nat} (hi : i < xs.length) : xs[i].toNat = 255 := by rw [h _ (List.getElem_mem hi)]; rfl
theorem tail_get {p : List UInt8} {x : UInt8} {k i : Nat} (h1 : p.length < i) (h2 : i < (p ++ x :: List.replicate k 255).length) : (p ++ x :: List.replicate k (255 : UInt8))[i].toNat = 255 := by
  rw [List.getElem_append_right (by omega)]
  obtain ⟨j, hj⟩ : ∃ j, i - p.length = j + 1 := ⟨i - p.length - 1, by omega⟩
  simp [hj]
theorem mid_get {p : List UInt8} {x : UInt8} {k : Nat} (h : p.length < (p ++ x :: List.replicate k (255 : UInt8)).length) : (p ++ x :: List.replicate k (255 : UInt8))[p.length] = x := by
  rw [List.getElem_append_right (by omega)]
  simp

theorem take_mid (p : List UInt8) (x : UInt8) (r : List UInt8) {l : Nat} (h : p.length = l) : (p ++ x :: r).take (l + 1) = p ++ [x] := by
  subst h
  rw [List.take_append, List.take_of_length_le (by omega)]
  simp
theorem set_mid (p : List UInt8) (x y : UInt8) {l : Nat} (h : p.length = l) : (cellsOf (p ++ [x])).set l (byteV y) = cellsOf (p ++ [y]) := by
  subst h
  rw [cellsOf_append, cellsOf_append]
  conv => lhs; arg 2; rw [← cellsOf_length p]
  simp [cellsOf]
theorem end_full (A : Option Addr) (n c : Nat) (xs : List UInt8) (w : World) (hr : Rd w A n xs) (hl : n ≤ 140737488355328) (hf : ∀ x ∈ xs, x = 255) :
    Calls Try.prog 22 #[.slice A n c] w fun e w' => ∃ A' c', e = .returned (.slice A' 1 c') ∧ w'.ownsRow w.heap.size 5 1 (.slice A' 1 c') 1 (cellsOf [0]) ∧ Below w.heap.size w w' := by
  have HR := kept hr
  have HF := kept hf
  have HN := kept ((Blk.new w 5 #[.int .u8 0]).own (xs := [0]) (base := w.heap.size) (n := 1) (Nat.le_refl _) rfl (by unfold maxLen; omega))
  clear hr hf
  go_enter Try.func22, Try.ntmps22
  go_wp2
  go_loop [8] (fun i => ∃ k : Nat, k ≤ n ∧ i = .int .i64 k) (fun i => n - (intOf i).toNat)
  case atStart => exact ⟨0, Nat.zero_le _, rfl⟩
  case round =>
    obtain ⟨k, hk, rfl⟩ := hrel
    by_cases hlt : k < n
    · have hx := HR.out.1
      obtain ⟨a, rfl, hc⟩ := HR.out.at_ (k := n - 1 - k) (by omega)
      rw [full_get HF.out (by omega)] at hc
      clear hx
      go_wp2
      go_round
      case rel => exact ⟨k + 1, by omega, by go_num⟩
      case measure => simp [intOf]; omega
    · go_wp2
      go_ret
      exact ⟨_, _, rfl, HN.out, (Below.refl _ _).alloc (Nat.le_refl _) _⟩

theorem end_found (A : Option Addr) (n c : Nat) (p : List UInt8) (x : UInt8) (t : Nat) (w : World) (hr : Rd w A n (p ++ x :: List.replicate t 255)) (hl : n ≤ 140737488355328) (hnc : n ≤ c) (hx : x ≠ 255) :
    Calls Try.prog 22 #[.slice A n c] w fun e w' => ∃ A' c', e = .returned (.slice A' (p.length + 1) c') ∧ w'.ownsRow w.heap.size 5 1 (.slice A' (p.length + 1) c') (p.length + 1) (cellsOf (p ++ [x + 1])) ∧ Below w.heap.size w w' := by
  have hlen : n = p.length + 1 + t := by have := hr.1; simp at this; omega
  have hx2 : x.toNat ≠ 255 := fun e => hx (UInt8.toNat_inj.1 e)
  have hx3 := x.toNat_lt
  have HR := kept hr
  obtain ⟨a, rfl, _⟩ := hr.2 (by omega)
  generalize hpl : p.length = l at hlen ⊢
  clear hr
  go_enter Try.func22, Try.ntmps22
  go_wp2
  go_loop [8] (fun i => ∃ k : Nat, k ≤ t ∧ i = .int .i64 k) (fun i => t - (intOf i).toNat)
  case atStart => exact ⟨0, Nat.zero_le _, rfl⟩
  case round =>
    obtain ⟨k, hk, rfl⟩ := hrel
    have hlx := HR.out.1
    by_cases hlt : k < t
    · obtain ⟨a', ea, hc⟩ := HR.out.at_ (k := l + t - k) (by omega)
      obtain rfl := Option.some.inj ea
      rw [tail_get (by omega) (by omega)] at hc
      clear hlx
      go_wp2
      go_round
      case rel => exact ⟨k + 1, by omega, by go_num⟩
      case measure => simp [intOf]; omega
    · obtain rfl : k = t := by omega
      obtain ⟨a', ea, hc⟩ := HR.out.at_ (k := l) (by omega)
      obtain rfl := Option.some.inj ea
      have hx4 : (p ++ x :: List.replicate k (255 : UInt8))[l]'(by omega) = x := by subst hpl; exact mid_get _
      rw [hx4] at hc
      have HP : Hid (Rd w (some a) (l + 1) (p ++ [x])) := by
        have := HR.out.take (k := l + 1) (by omega)
        rw [take_mid p x _ hpl] at this
        exact this
      have hne : ((x.toNat : Int) != 255) = true := by simp; omega
      generalize hxn : x.toNat = y at hc hne hx2 hx3
      have HXN := kept hxn
      have HPL := kept hpl
      clear hlx hx4 hxn hpl
      have HSET := kept (set_mid p x (x + 1) HPL.out)
      have HV : Hid ((Value.int .u8 ((y : Int) + 1)) = byteV (x + 1)) := by
        show _ = Value.int .u8 (((x + 1).toNat : Nat) : Int)
        rw [UInt8.toNat_add, HXN.out]
        congr 1
        simp
        omega
      have HGET : Hid ((cellsOf (p ++ [x]))[l]? = some (.int .u8 (y : Int))) := by
        show _ = _
        rw [cellsOf_get _ l (by simp; have := HPL.out; omega)]
        have h := HPL.out
        subst h
        simp [byteV, HXN.out]
      go_wp2_with fail
      with_reducible refine (clone_any _ _ _ _ _ HP.out (by omega)).mono ?_
      rintro e w1 ⟨A1, c1, rfl, hown1, hb1⟩
      obtain ⟨g, cap, hv, hbg, hglt⟩ := hown1.form (by omega)
      obtain ⟨rfl, rfl⟩ : A1 = some ⟨g, 0, none⟩ ∧ c1 = cap := by simpa using hv
      have hc1 : w1.cell? ⟨g, l, none⟩ = some (.int .u8 (y : Int)) := by rw [hown1.cellAt l (by omega)]; exact HGET.out
      have hf1 : w1.frozen? ⟨g, l, none⟩ = false := hown1.frozenAt l
      have hst := (hown1.stored l (.int .u8 ((y : Int) + 1))).1
      have HST : Hid ((w1.setCell ⟨g, l, none⟩ (.int .u8 ((y : Int) + 1))).ownsRow w.heap.size 5 1 (.slice (some ⟨g, 0, none⟩) (l + 1) c1) (l + 1) (cellsOf (p ++ [x + 1]))) := by
        rw [← HSET.out, ← HV.out]; exact hst
      have HB1 := kept (hb1.setCell (p := ⟨g, l, none⟩) hbg (.int .u8 ((y : Int) + 1)))
      clear hown1 hb1 hv hst
      go_wp2
      go_ret
      exact ⟨_, _, rfl, HST.out, HB1.out⟩

def full (xs : List UInt8) : Bool := decide (∀ x ∈ xs, x = 255)
theorem full_any (A : Option Addr) (n c : Nat) (xs : List UInt8) (w : World) (hr : Rd w A n xs) (hl : n ≤ 140737488355328) :
    Calls Try.prog 38 #[.slice A n c] w fun e w' => e = .returned (.bool (full xs)) ∧ w = w' := by
  have HR := kept hr
  clear hr
  go_enter Try.func38, Try.ntmps38
  go_wp2
  go_loop [7] (fun i => ∃ k : Nat, k ≤ n ∧ i = .int .i64 k ∧ Hid (∀ j (h : j < xs.length), j < k → xs[j] = 255)) (fun i => n - (intOf i).toNat)
  case atStart => exact ⟨0, Nat.zero_le _, rfl, fun j _ hj => absurd hj (by omega)⟩
  case round =>
    obtain ⟨k, hk, rfl, HF⟩ := hrel
    have hx := HR.out.1
    by_cases hlt : k < n
    · obtain ⟨a, rfl, hc⟩ := HR.out.at_ (k := k) (by omega)
      by_cases h255 : xs[k] = 255
      · have HF2 : Hid (∀ j (h : j < xs.length), j < k + 1 → xs[j] = 255) := fun j h hj => by
          rcases Nat.lt_succ_iff_lt_or_eq.1 hj with h' | h'
          · exact HF.out j h h'
          · subst h'; exact h255
        rw [h255] at hc
        have hc' : w.cell? (a.add k) = some (.int .u8 255) := hc
        clear hx HF hc h255
        go_wp2
        go_round
        case rel => exact ⟨k + 1, by omega, by go_num, HF2⟩
        case measure => simp [intOf]; omega
      · have HN : Hid (full xs = false) := by
          show full xs = false
          unfold full
          simp only [decide_eq_false_iff_not]
          exact fun h => h255 (h _ (List.getElem_mem _))
        have hne : (((xs[k].toNat : Nat) : Int) != 255) = true := by
          have : xs[k].toNat ≠ 255 := fun e => h255 (UInt8.toNat_inj.1 e)
          simp; omega
        have hbt := xs[k].toNat_lt
        generalize hxk : xs[k].toNat = y at hc hne hbt
        clear hx HF h255 hxk
        go_wp2
        go_ret
        exact ⟨ret_bool (by rw [HN.out]), rfl⟩
    · have HY : Hid (full xs = true) := by
        show full xs = true
        unfold full
        simp only [decide_eq_true_eq]
        intro x hm
        obtain ⟨j, hj, rfl⟩ := List.getElem_of_mem hm
        exact HF.out j hj (by omega)
      clear HF hx
      go_wp2
      go_ret
      exact ⟨ret_bool (by rw [HY.out]), rfl⟩

theorem refEnd_full (A : Option Addr) (n c : Nat) (xs : List UInt8) (w : World) (hr : Rd w A n xs) (hl : n ≤ 140737488355328) (hf : ∀ x ∈ xs, x = 255) :
    Calls Try.prog 23 #[.slice A n c] w fun e w' => ∃ A' c', e = .returned (.slice A' 1 c') ∧ Rd w' A' 1 [0] ∧ Below w.heap.size w w' := by
  have HF := kept (full_any A n c xs w hr hl)
  have hfull : full xs = true := by simpa [full] using hf
  rw [hfull] at HF
  have HN := kept (Rd.of_own ((Blk.new w 5 #[.int .u8 0]).own (xs := [0]) (base := w.heap.size) (n := 1) (Nat.le_refl _) rfl (by unfold maxLen; omega)))
  clear hr hf hfull
  go_enter Try.func23, Try.ntmps23
  go_wp2_with (first | (go_at_call 38; (with_reducible refine (HF.out).mono ?_); rintro e w' ⟨rfl, rfl⟩))
  go_ret
  exact ⟨_, _, rfl, HN.out, (Below.refl _ _).alloc (Nat.le_refl _) _⟩

theorem set_mid2 (p : List UInt8) (x y : UInt8) (r : List UInt8) {l : Nat} (h : p.length = l) : (cellsOf (p ++ x :: r)).set l (byteV y) = cellsOf (p ++ y :: r) := by
  subst h
  rw [cellsOf_append, cellsOf_append]
  conv => lhs; arg 2; rw [← cellsOf_length p]
  simp [cellsOf]
theorem refEnd_found (A : Option Addr) (n c : Nat) (p : List UInt8) (x : UInt8) (t : Nat) (w : World) (hr : Rd w A n (p ++ x :: List.replicate t 255)) (hl : n ≤ 140737488355328) (hx : x ≠ 255) :
    Calls Try.prog 23 #[.slice A n c] w fun e w' => ∃ A' c', e = .returned (.slice A' (p.length + 1) c') ∧ Rd w' A' (p.length + 1) (p ++ [x + 1]) ∧ Below w.heap.size w w' := by
  have hlen : n = p.length + 1 + t := by have := hr.1; simp at this; omega
  have hx2 : x.toNat ≠ 255 := fun e => hx (UInt8.toNat_inj.1 e)
  have hx3 := x.toNat_lt
  have HF := kept (full_any A n c _ w hr hl)
  have hfull : full (p ++ x :: List.replicate t 255) = false := by
    unfold full
    simp only [decide_eq_false_iff_not]
    exact fun h => hx (h x (by simp))
  rw [hfull] at HF
  have HT := kept (twin_any A n c _ w hr hl)
  generalize hpl : p.length = l at hlen ⊢
  have HXS := kept hr.1
  have HL := kept hlen
  have HPL := kept hpl
  clear hr hfull hx hlen hpl
  go_enter Try.func23, Try.ntmps23
  go_wp2_with fail
  with_reducible refine HF.out.mono ?_
  rintro e w' ⟨rfl, rfl⟩
  go_wp2_with fail
  with_reducible refine HT.out.mono ?_
  rintro e w1 ⟨A1, c1, rfl, hown1, hb1⟩
  obtain ⟨g, cap, hv, hbg, hglt⟩ := hown1.form (by have := HL.out; omega)
  obtain ⟨rfl, rfl⟩ : A1 = some ⟨g, 0, none⟩ ∧ c1 = cap := by simpa using hv
  have HCAP : Hid (n ≤ c1) := by
    rcases hown1.2 with ⟨_, h0⟩ | ⟨g', cap', cur, hv', _, _, h1, _⟩
    · have := HL.out; omega
    · obtain ⟨_, rfl⟩ : g = g' ∧ c1 = cap' := by simpa using hv'
      exact h1
  have HO1 := kept hown1
  have HB1 := kept hb1
  clear hown1 hb1 hv
  go_wp2
  go_loop [3] (fun v => ∃ j : Nat, j ≤ t ∧ v = .slice (some ⟨g, 0, none⟩) (l + 1 + j) c1) (fun v => match v with | .slice _ m _ => m | _ => 0)
  case atStart => exact ⟨t, Nat.le_refl _, by rw [HL.out]⟩
  case round =>
    obtain ⟨j, hj, rfl⟩ := hrel
    have hlen := HL.out
    have hxs := HXS.out
    have hcap := HCAP.out
    have hbound : l + 1 + j ≤ 140737488355328 := by omega
    have hcell : ∀ i (h : i < (p ++ x :: List.replicate t 255).length), w1.cell? ⟨g, i, none⟩ = some (byteV ((p ++ x :: List.replicate t 255)[i]'h)) := fun i h => by
      rw [HO1.out.cellAt i (by omega)]
      exact cellsOf_get _ _ _
    by_cases h0 : 0 < j
    · have hcv : w1.cell? ⟨g, l + j, none⟩ = some (.int .u8 255) := by
        rw [hcell (l + j) (by omega)]
        unfold byteV
        rw [tail_get (by have := HPL.out; omega) (by omega)]
        rfl
      have hcap2 : (l : Int) + 1 + j - 1 ≤ c1 := by omega
      have hcap3 : ¬ c1 = 0 := by omega
      clear hcell hlen hxs hcap
      go_wp2
      go_round
      case rel => exact ⟨j - 1, by omega, by rw [show l + 1 + (j - 1) = l + 1 + j - 1 by omega]⟩
      case measure =>
        show l + 1 + j - 1 < l + 1 + j
        omega
    · obtain rfl : j = 0 := by omega
      have hcv : w1.cell? ⟨g, l, none⟩ = some (.int .u8 (x.toNat : Int)) := by
        rw [hcell l (by omega)]
        unfold byteV
        have hp := HPL.out
        subst hp
        rw [mid_get]
      have hf1 : w1.frozen? ⟨g, l, none⟩ = false := HO1.out.frozenAt l
      have HV : Hid ((Value.int .u8 ((x.toNat : Int) + 1)) = byteV (x + 1)) := by
        show _ = Value.int .u8 (((x + 1).toNat : Nat) : Int)
        rw [UInt8.toNat_add]
        congr 1
        simp
        omega
      have HST : Hid (Rd (w1.setCell ⟨g, l, none⟩ (.int .u8 ((x.toNat : Int) + 1))) (some ⟨g, 0, none⟩) (l + 1) (p ++ [x + 1])) := by
        have hst := (HO1.out.stored l (.int .u8 ((x.toNat : Int) + 1))).1
        rw [HV.out] at hst ⊢
        rw [set_mid2 p x (x + 1) _ HPL.out] at hst
        have := (Rd.of_own hst).take (k := l + 1) (by omega)
        rwa [take_mid p (x + 1) _ HPL.out] at this
      have HB2 := kept (HB1.out.setCell (p := ⟨g, l, none⟩) hbg (.int .u8 ((x.toNat : Int) + 1)))
      have hne : ((x.toNat : Int) == 255) = false := by simp; omega
      generalize x.toNat = y at hcv HST HB2 hne hx2 hx3 HV
      clear hcell hlen hxs hcap HV
      go_wp2
      go_ret
      exact ⟨_, ⟨_, rfl⟩, HST.out, HB2.out⟩

theorem endless_any (A : Option Addr) (n c : Nat) (xs : List UInt8) (w : World) (hr : Rd w A n xs) (hl : n ≤ 140737488355328) :
    Calls Try.prog 39 #[.slice A n c] w fun e w' => e = .returned (.bool (decide (xs = [0]))) ∧ w = w' := by
  have hx := hr.1
  by_cases h1 : n = 1
  · subst h1
    obtain ⟨a, rfl, hc⟩ := hr.at_ (k := 0) (by omega)
    obtain ⟨x, rfl⟩ : ∃ x, xs = [x] := List.length_eq_one_iff.1 hx
    have hc' : w.cell? a = some (.int .u8 (x.toNat : Int)) := by
      have := hc
      simpa [Addr.add] using this
    have HE : Hid (decide ([x] = [(0 : UInt8)]) = ((x.toNat : Int) == 0)) := by
      show _ = _
      by_cases h : x = 0
      · subst h; rfl
      · have h2 : x.toNat ≠ 0 := fun e => h (UInt8.toNat_inj.1 e)
        have h3 : ((x.toNat : Int) == 0) = false := by simp; omega
        rw [h3]
        simp [h]
    have hbt := x.toNat_lt
    generalize hxn : x.toNat = y at hc' HE hbt
    clear hr hc hxn hx
    go_enter Try.func39, Try.ntmps39
    go_wp2
    go_ret
    exact ⟨ret_bool (by rw [HE.out]), rfl⟩
  · have HE : Hid (decide (xs = [(0 : UInt8)]) = false) := by
      show _ = _
      simp only [decide_eq_false_iff_not]
      rintro rfl
      exact h1 (by simpa using hx.symm)
    have hb : ((n : Int) == 1) = false := by simp; omega
    clear hr hx h1
    go_enter Try.func39, Try.ntmps39
    go_wp2
    go_ret
    exact ⟨ret_bool (by rw [HE.out]), rfl⟩

theorem ahead_self : ∀ a : List UInt8, ahead a a = false
  | [] => rfl
  | x :: a => by simp [ahead, ahead_self a]
theorem ahead_asymm : ∀ a b : List UInt8, ahead a b = true → ahead b a = false
  | _, [], h => by simp [ahead] at h
  | [], _ :: _, _ => by simp [ahead]
  | x :: a, y :: b, h => by
    unfold ahead at h ⊢
    by_cases e : x = y
    · subst e
      simp at h ⊢
      exact ahead_asymm a b h
    · rw [if_neg e] at h
      rw [if_neg (fun e' => e e'.symm)]
      simp only [decide_eq_true_eq, decide_eq_false_iff_not] at h ⊢
      rw [UInt8.lt_iff_toNat_lt] at h ⊢
      omega
theorem ahead_eq : ∀ a b : List UInt8, ahead a b = false → ahead b a = false → a = b
  | [], [], _, _ => rfl
  | [], _ :: _, h, _ => by simp [ahead] at h
  | _ :: _, [], _, h => by simp [ahead] at h
  | x :: a, y :: b, h, h' => by
    unfold ahead at h h'
    by_cases e : x = y
    · subst e
      rw [if_pos rfl] at h h'
      rw [ahead_eq a b h h']
    · rw [if_neg e] at h
      rw [if_neg (fun e' => e e'.symm)] at h'
      simp only [decide_eq_false_iff_not] at h h'
      rw [UInt8.lt_iff_toNat_lt] at h h'
      exact absurd (UInt8.toNat_inj.1 (by omega)) e
/-- Is a key in a range? -/
def inB (k key end_ : List UInt8) : Bool := if end_ = [] then decide (k = key) else if ahead k key then false else decide (end_ = [0]) || ahead k end_

theorem in_any (A B C : Option Addr) (n m l c d f : Nat) (xs ys zs : List UInt8) (w : World) (h1 : Rd w A n xs) (h2 : Rd w B m ys) (h3 : Rd w C l zs) (hn : n ≤ 140737488355328) (hm : m ≤ 140737488355328) (hl : l ≤ 140737488355328) :
    Calls Try.prog 24 #[.slice A n c, .slice B m d, .slice C l f] w fun e w' => e = .returned (.bool (inB xs ys zs)) ∧ w = w' := by
  have H1 := kept (compare_any A B n m c d xs ys w h1 h2)
  have H2 := kept (compare_any A C n l c f xs zs w h1 h3)
  have H3 := kept (endless_any C l f zs w h3 hl)
  have hz := h3.1
  have HI : Hid (inB xs ys zs = if zs = [] then decide (xs = ys) else if ahead xs ys then false else decide (zs = [0]) || ahead xs zs) := rfl
  have HO1 : Hid (ordB xs ys = if ahead xs ys then -1 else if ahead ys xs then 1 else 0) := rfl
  have HO2 : Hid (ordB xs zs = if ahead xs zs then -1 else if ahead zs xs then 1 else 0) := rfl
  have HEQ := kept (fun h h' => ahead_eq xs ys h h')
  have HSE := kept (ahead_self xs)
  generalize inB xs ys zs = r at HI ⊢
  generalize ordB xs ys = o1 at H1 HO1
  generalize ordB xs zs = o2 at H2 HO2
  clear h1 h2 h3
  by_cases hl0 : l = 0
  · subst hl0
    obtain rfl : zs = [] := List.eq_nil_of_length_eq_zero hz
    have HR : Hid (r = (o1 == 0)) := by
      show r = _
      have hi := HI.out
      have ho := HO1.out
      rw [if_pos rfl] at hi
      rw [hi, ho]
      by_cases h : xs = ys
      · subst h; simp [HSE.out]
      · cases ha : ahead xs ys
        · cases hb : ahead ys xs
          · exact absurd (HEQ.out ha hb) h
          · simp [h]
        · simp [h]
    clear HI HO1 HO2 H2 H3 HEQ HSE hz
    go_enter Try.func24, Try.ntmps24
    go_wp2_with (first | (go_at_call 19; (with_reducible refine (H1.out).mono ?_); rintro e w' ⟨rfl, rfl⟩))
    go_ret
    exact ⟨ret_bool (by rw [HR.out]), rfl⟩
  · have hb : ((l : Int) == 0) = false := by simp; omega
    have hne : zs ≠ [] := by rintro rfl; exact hl0 (by simpa using hz.symm)
    have HR : Hid (r = if ahead xs ys then false else decide (zs = [0]) || ahead xs zs) := by
      have hi := HI.out
      rw [if_neg hne] at hi
      exact hi
    generalize decide (zs = [0]) = en at H3 HR
    have HA1 : Hid ((ahead xs ys = true ∧ decide (0 ≤ o1) = false) ∨ (ahead xs ys = false ∧ decide (0 ≤ o1) = true)) := by
      have ho := HO1.out
      cases ha : ahead xs ys
      · refine .inr ⟨rfl, ?_⟩
        rw [ho, ha]
        cases ahead ys xs <;> rfl
      · refine .inl ⟨rfl, ?_⟩
        rw [ho, ha]
        rfl
    have HA2 : Hid ((ahead xs zs = true ∧ decide (o2 < 0) = true) ∨ (ahead xs zs = false ∧ decide (o2 < 0) = false)) := by
      have ho := HO2.out
      cases ha : ahead xs zs
      · refine .inr ⟨rfl, ?_⟩
        rw [ho, ha]
        cases ahead zs xs <;> rfl
      · refine .inl ⟨rfl, ?_⟩
        rw [ho, ha]
        rfl
    generalize ahead xs ys = b1 at HR HA1
    generalize ahead xs zs = b2 at HR HA2
    clear HI HO1 HO2 HEQ HSE hz hne hl0
    rcases HA1.out with ⟨rfl, g1⟩ | ⟨rfl, g1⟩ <;> rcases HA2.out with ⟨rfl, g2⟩ | ⟨rfl, g2⟩ <;> cases en
    all_goals
      clear HA1 HA2
      go_enter Try.func24, Try.ntmps24
      go_wp2_with (first | (go_at_call 19; (with_reducible refine (H1.out).mono ?_); rintro e w' ⟨rfl, rfl⟩) | (go_at_call 39; (with_reducible refine (H3.out).mono ?_); rintro e w' ⟨rfl, rfl⟩) | (go_at_call 19; (with_reducible refine (H2.out).mono ?_); rintro e w' ⟨rfl, rfl⟩))
      go_ret
      exact ⟨ret_bool (by rw [HR.out]; rfl), rfl⟩

theorem refIn_any (A B C : Option Addr) (n m l c d f : Nat) (xs ys zs : List UInt8) (w : World) (h1 : Rd w A n xs) (h2 : Rd w B m ys) (h3 : Rd w C l zs) (hn : n ≤ 140737488355328) (hm : m ≤ 140737488355328) (hl : l ≤ 140737488355328) :
    Calls Try.prog 25 #[.slice A n c, .slice B m d, .slice C l f] w fun e w' => e = .returned (.bool (inB xs ys zs)) ∧ Below w.heap.size w w' := by
  have H1 := kept (ahead_any A B n m c d xs ys w h1 h2 hn hm)
  have HS := kept (same_any A B n m c d xs ys w h1 h2 _ rfl)
  have hz := h3.1
  have HI : Hid (inB xs ys zs = if zs = [] then decide (xs = ys) else if ahead xs ys then false else decide (zs = [0]) || ahead xs zs) := rfl
  have HX := kept h1
  have HZ := kept h3
  clear h1 h2 h3
  by_cases hl0 : l = 0
  · subst hl0
    obtain rfl : zs = [] := List.eq_nil_of_length_eq_zero hz
    have HR : Hid (inB xs ys [] = decide (xs = ys)) := rfl
    clear HI H1 hz
    go_enter Try.func25, Try.ntmps25
    go_wp2_with (first | (go_at_call 14; (with_reducible refine (HS.out).mono ?_); rintro e w' ⟨rfl, rfl⟩))
    go_ret
    exact ⟨ret_bool (by rw [HR.out]), Below.refl _ _⟩
  · have hb : ((l : Int) == 0) = false := by simp; omega
    have hne : zs ≠ [] := by rintro rfl; exact hl0 (by simpa using hz.symm)
    have HR : Hid (inB xs ys zs = if ahead xs ys then false else decide (zs = [0]) || ahead xs zs) := by
      have hi := HI.out
      rw [if_neg hne] at hi
      exact hi
    have H2 := fun W (hx : Rd W A n xs) (hz : Rd W C l zs) => kept (ahead_any A C n l c f xs zs W hx hz hn hl)
    have H3 := fun W (hz : Rd W C l zs) (B : Option Addr) (d : Nat) (h : Rd W B 1 [0]) => kept (same_any C B l 1 f d zs [0] W hz h _ rfl)
    generalize inB xs ys zs = r at HR HI ⊢
    generalize ahead xs ys = b1 at HR H1 HI
    generalize ahead xs zs = b2 at HR H2 HI
    generalize decide (zs = [0]) = en at H3 HR HI
    clear HI hz hne hl0 HS
    cases b1 <;> cases b2 <;> cases en
    all_goals
      go_enter Try.func25, Try.ntmps25
      go_wp2_with fail
      with_reducible refine H1.out.mono ?_
      rintro e w1 ⟨rfl, HW⟩
      have HX1 : Hid (Rd w1 A n xs) := by obtain ⟨q, rfl⟩ := HW.out; exact HX.out
      have HZ1 : Hid (Rd w1 C l zs) := by obtain ⟨q, rfl⟩ := HW.out; exact HZ.out
      have HB1 : Hid (Below w.heap.size w w1) := by obtain ⟨q, rfl⟩ := HW.out; exact drewN_below (Below.refl _ _) q
      have HN1 := kept (Rd.of_own ((Blk.new w1 5 #[.int .u8 0]).own (xs := [0]) (base := 0) (n := 1) (Nat.zero_le _) rfl (by unfold maxLen; omega)))
      clear HW
      go_wp2_with (first | (go_at_call 14; (with_reducible refine ((H3 _ (HZ1.out.alloc _) _ _ HN1.out).out).mono ?_); rintro e w' ⟨rfl, rfl⟩) | (go_at_call 36; (with_reducible refine ((H2 _ (HX1.out.alloc _) (HZ1.out.alloc _)).out).mono ?_); rintro e w2 ⟨rfl, HW2⟩))
      go_ret
      first
        | exact ⟨ret_bool (by rw [HR.out]; rfl), HB1.out⟩
        | exact ⟨ret_bool (by rw [HR.out]; rfl), HB1.out.alloc HB1.out.size _⟩
        | (obtain ⟨q2, rfl⟩ := HW2.out; exact ⟨ret_bool (by rw [HR.out]; rfl), drewN_below (HB1.out.alloc HB1.out.size _) _⟩)
end Go.Proofs.Ytgjibjpnbdffjaa
