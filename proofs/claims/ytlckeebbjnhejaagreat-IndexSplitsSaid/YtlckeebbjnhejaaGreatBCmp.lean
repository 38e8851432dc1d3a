/-
  Texts laid together: Cmp End.
-/
import Derived.Test.YtlckeebbjnhejaaGreatBBase
import Derived.Lib.Bytealg
import Derived.Laws.Externs
import Derived.Deep.QuietTactic
import Derived.BigQuiet
import Derived.Deep.Draws
section
/-
  What octets.Compare and Common and the document's own Ahead and Compare answer, call by call; the order of keys.
-/
namespace Go.Proofs.YtlckeebbjnhejaaGreat
open Go.ChangeShapes Go.WideShapes Go.ChangeAt Go.RowKit
set_option linter.unusedVariables false

/-- Does a key come ahead of another one? -/
def ahead : List UInt8 → List UInt8 → Bool
  | _, [] => false
  | [], _ :: _ => true
  | x :: a, y :: b => if x = y then ahead a b else decide (x < y)
/-- The order of keys: -1, 0, 1. -/
def ordB (a b : List UInt8) : Int := if ahead a b then -1 else if ahead b a then 1 else 0
theorem ordB_eq : ∀ a b : List UInt8, Lib.compareBytes a b = ordB a b
  | [], [] => by simp [Lib.compareBytes, ordB, ahead]
  | [], _ :: _ => by simp [Lib.compareBytes, ordB, ahead]
  | _ :: _, [] => by simp [Lib.compareBytes, ordB, ahead]
  | x :: a, y :: b => by
    have ih := ordB_eq a b
    unfold Lib.compareBytes
    by_cases h : x = y
    · subst h
      simp [ih, ordB, ahead, UInt8.lt_irrefl]
    · have h' : ¬ y = x := fun e => h e.symm
      by_cases hl : x < y
      · simp [ordB, ahead, h, hl]
      · have hg : y < x := by
          have h1 : x.toNat ≠ y.toNat := fun e => h (UInt8.toNat_inj.1 e)
          simp only [UInt8.lt_iff_toNat_lt] at hl ⊢
          omega
        simp [ordB, ahead, h, hl, h', hg]
/-- How many bytes from the front are alike. -/
def common : List UInt8 → List UInt8 → Nat
  | x :: a, y :: b => if x = y then common a b + 1 else 0
  | _, _ => 0

theorem run_loadBytes8 {P : Program} {w : World} : ∀ (xs : List UInt8) (a : Addr) (acc : ByteArray), (∀ j (h : j < xs.length), w.cell? (a.add j) = some (byteV xs[j])) →
    (Extern.Bytes.loadBytes a xs.length acc).run P w = .ok ⟨acc.data ++ xs.toArray⟩ w
  | [], a, acc, _ => by simp [Extern.Bytes.loadBytes]
  | x :: l, a, acc, h => by
    have h0 : w.cell? a = some (.int .u8 (x.toNat : Int)) := by
      have := h 0 (by simp)
      simpa [Addr.add, byteV] using this
    have ih := run_loadBytes8 (P := P) (w := w) l (a.add 1) (acc.push x) (fun j hj => by
      have := h (j + 1) (by simpa using hj)
      rw [add_add, Nat.add_comm 1 j]
      simpa using this)
    have e : ((x.toNat : Int).toNat).toUInt8 = x := by simp
    simp only [List.length_cons, Extern.Bytes.loadBytes, Sem.run_bind, run_load, h0, Result.andThen]
    rw [e, ih]
    congr 1
    apply ByteArray.ext
    simp [ByteArray.push]
theorem Rd.bytes {P : Program} {w : World} {A : Option Addr} {n : Nat} {xs : List UInt8} (h : Rd w A n xs) (c : Nat) : (Extern.Bytes.bytesOf (.slice A n c)).run P w = .ok (strOf xs) w := by
  have hx := h.1
  rcases A with _ | a
  · rcases Nat.eq_zero_or_pos n with hn | hn
    · subst hn
      obtain rfl : xs = [] := List.eq_nil_of_length_eq_zero hx
      rfl
    · obtain ⟨a, e, _⟩ := h.2 hn
      cases e
  · have := run_loadBytes8 (P := P) (w := w) xs a .empty (fun j hj => by
      obtain ⟨a', e, hc⟩ := h.2 (by omega)
      cases e
      exact hc j hj)
    rw [hx] at this
    simp only [Extern.Bytes.bytesOf, this]
    congr 1
    apply ByteArray.ext
    show (#[] : Array UInt8) ++ xs.toArray = xs.toArray
    simp
theorem run_compare8 {P : Program} {w : World} {A B : Option Addr} {n m : Nat} {xs ys : List UInt8} (h1 : Rd w A n xs) (h2 : Rd w B m ys) (c d : Nat) :
    (Extern.BytealgCompare.compare #[.slice A n c, .slice B m d]).run P w = .ok (.int .i64 (ordB xs ys)) w := by
  change Sem.run P (do pure (goInt (Extern.BytealgCompare.cmp (← Extern.Bytes.bytesOf (.slice A n c)) (← Extern.Bytes.bytesOf (.slice B m d))))) w = _
  simp only [Sem.run_bind, Sem.run_pure, Result.andThen, h1.bytes c, h2.bytes d]
  rw [Lib.cmp_eq, ← ordB_eq]
  rfl

set_option maxRecDepth 100000 in
theorem compare_any (A B : Option Addr) (n m c d : Nat) (xs ys : List UInt8) (w : World) (h1 : Rd w A n xs) (h2 : Rd w B m ys) :
    Calls Tryz.prog 86 #[.slice A n c, .slice B m d] w fun e w' => e = .returned (.int .i64 (ordB xs ys)) ∧ w = w' := by
  have hc := kept (run_compare8 (P := Tryz.prog) h1 h2 c d)
  clear h1 h2
  generalize ordB xs ys = o at hc
  go_enter Tryz.func86, Tryz.ntmps86
  go_wp2
  rw [run_callFunc_extern Tryz.func132 (by kernel_rfl) (by kernel_rfl) (by kernel_rfl) (e := Extern.BytealgCompare.compare) (by kernel_rfl), hc.out]
  simp only [Result.andThen]
  rw [Oper.upon_value]
  go_wp2
  go_ret
  exact ⟨rfl, rfl⟩

theorem common_le : ∀ a b : List UInt8, common a b ≤ a.length ∧ common a b ≤ b.length
  | [], _ => by simp [common]
  | _ :: _, [] => by simp [common]
  | x :: a, y :: b => by
    have := common_le a b
    unfold common
    split
    · simp; omega
    · simp
theorem common_alike : ∀ (a b : List UInt8) (k : Nat), k < common a b → ∃ (h1 : k < a.length) (h2 : k < b.length), a[k] = b[k]
  | [], _, k, h => by simp [common] at h
  | _ :: _, [], k, h => by simp [common] at h
  | x :: a, y :: b, k, h => by
    unfold common at h
    split at h
    · next e =>
      cases k with
      | zero => exact ⟨by simp, by simp, by simpa using e⟩
      | succ k =>
        obtain ⟨h1, h2, e2⟩ := common_alike a b k (by omega)
        exact ⟨by simpa using h1, by simpa using h2, by simpa using e2⟩
    · omega
/-- Where the first k are alike and the next ones part, or there are no more, k it is. -/
theorem common_is : ∀ (a b : List UInt8) (k : Nat), (∀ j, j < k → ∃ (h1 : j < a.length) (h2 : j < b.length), a[j] = b[j]) → (∀ (h1 : k < a.length) (h2 : k < b.length), a[k] ≠ b[k]) → common a b = k
  | [], _, k, h, _ => by
    cases k with
    | zero => rfl
    | succ k => obtain ⟨h1, _⟩ := h 0 (by omega); simp at h1
  | _ :: _, [], k, h, _ => by
    cases k with
    | zero => rfl
    | succ k => obtain ⟨_, h2, _⟩ := h 0 (by omega); simp at h2
  | x :: a, y :: b, k, h, hn => by
    unfold common
    cases k with
    | zero =>
      have := hn (by simp) (by simp)
      rw [if_neg (by simpa using this)]
    | succ k =>
      obtain ⟨_, _, e⟩ := h 0 (by omega)
      rw [if_pos (by simpa using e), common_is a b k (fun j hj => by
        obtain ⟨h1, h2, e2⟩ := h (j + 1) (by omega)
        exact ⟨by simpa using h1, by simpa using h2, by simpa using e2⟩) (fun h1 h2 => by
        have := hn (by simpa using h1) (by simpa using h2)
        simpa using this)]
theorem common_next : ∀ (a b : List UInt8) (h1 : common a b < a.length) (h2 : common a b < b.length), a[common a b] ≠ b[common a b]
  | [], _, h1, _ => by simp at h1
  | _ :: _, [], _, h2 => by simp at h2
  | x :: a, y :: b, h1, h2 => by
    by_cases e : x = y
    · have hc : common (x :: a) (y :: b) = common a b + 1 := by show (if x = y then common a b + 1 else 0) = _; rw [if_pos e]
      have ih := common_next a b (by rw [hc] at h1; simpa using h1) (by rw [hc] at h2; simpa using h2)
      intro h
      apply ih
      simpa [hc] using h
    · have hc : common (x :: a) (y :: b) = 0 := by show (if x = y then common a b + 1 else 0) = _; rw [if_neg e]
      intro h
      apply e
      simpa [hc] using h
theorem ahead_common : ∀ (a b : List UInt8), ahead a b = (if h : common a b < b.length then (if h' : common a b < a.length then decide (a[common a b] < b[common a b]) else true) else false)
  | [], [] => by simp [ahead, common]
  | [], _ :: _ => by simp [ahead, common]
  | _ :: _, [] => by simp [ahead, common]
  | x :: a, y :: b => by
    have ih := ahead_common a b
    unfold ahead common
    by_cases e : x = y
    · simp only [e, if_true, ih, List.length_cons, Nat.add_lt_add_iff_right]
      simp
    · simp [e]

theorem drewN_below {B : Nat} {a w : World} (h : Below B a w) (n : Nat) : Below B a (w.drewN n) := ⟨h.os, h.tape, h.output, h.size, h.block⟩
theorem Rd.drewN {w : World} {A : Option Addr} {n : Nat} {xs : List UInt8} (h : Rd w A n xs) (k : Nat) : Rd (w.drewN k) A n xs := h

/-- The first k bytes of both are there, and alike. -/
def Alike (xs ys : List UInt8) (k : Nat) : Prop := ∀ j, j < k → ∃ (h1 : j < xs.length) (h2 : j < ys.length), xs[j] = ys[j]
theorem alike_zero (xs ys : List UInt8) : Alike xs ys 0 := fun j hj => absurd hj (by omega)
theorem alike_next {w : World} {A B : Option Addr} {n m : Nat} {xs ys : List UInt8} (h1 : Rd w A n xs) (h2 : Rd w B m ys) {k : Nat} (h : Alike xs ys k) (hn : k < n) (hm : k < m) :
    ∃ (a b : Addr) (x y : Nat), A = some a ∧ B = some b ∧ w.cell? (a.add k) = some (.int .u8 (x : Int)) ∧ w.cell? (b.add k) = some (.int .u8 (y : Int)) ∧ x < 256 ∧ y < 256 ∧
      ((x = y ∧ Hid (Alike xs ys (k + 1))) ∨ (x ≠ y ∧ Hid (common xs ys = k) ∧ Hid (ahead xs ys = decide (x < y)))) := by
  have hx := h1.1
  have hy := h2.1
  obtain ⟨a, ea, hca⟩ := h1.at_ (k := k) (by omega)
  obtain ⟨b, eb, hcb⟩ := h2.at_ (k := k) (by omega)
  refine ⟨a, b, _, _, ea, eb, hca, hcb, UInt8.toNat_lt _, UInt8.toNat_lt _, ?_⟩
  by_cases e : xs[k] = ys[k]
  · refine .inl ⟨by rw [e], fun j hj => ?_⟩
    rcases Nat.lt_succ_iff_lt_or_eq.1 hj with h' | h'
    · exact h j h'
    · subst h'; exact ⟨by omega, by omega, e⟩
  · have hc : common xs ys = k := common_is xs ys k h (fun _ _ => e)
    refine .inr ⟨fun e' => e (UInt8.toNat_inj.1 e'), hc, ?_⟩
    show ahead xs ys = _
    rw [ahead_common]
    subst hc
    rw [dif_pos (by omega), dif_pos (by omega)]
    simp [UInt8.lt_iff_toNat_lt]
theorem alike_end {n m : Nat} {xs ys : List UInt8} (h1 : xs.length = n) (h2 : ys.length = m) {k : Nat} (h : Alike xs ys k) (hk : k ≤ n) (hm : k ≤ m) (he : k = n ∨ k = m) : common xs ys = k ∧ ahead xs ys = decide (k < m) := by
  have hc : common xs ys = k := common_is xs ys k h (fun h1 h2 => by omega)
  refine ⟨hc, ?_⟩
  rw [ahead_common]
  subst hc
  by_cases hlt : common xs ys < ys.length
  · rw [dif_pos hlt, dif_neg (by omega)]
    simp; omega
  · rw [dif_neg hlt]
    simp; omega

theorem drawn2 (w : World) (q r : Nat) : ∃ s, (w.drewN q).drewN r = w.drewN s := ⟨_, World.drewN_drewN _ _ _⟩
theorem drawn3 (w : World) (q r t : Nat) : ∃ s, ((w.drewN q).drewN r).drewN t = w.drewN s := ⟨q + (r + t), by rw [World.drewN_drewN, World.drewN_drewN]⟩
theorem ahead_any (A B : Option Addr) (n m c d : Nat) (xs ys : List UInt8) (w : World) (h1 : Rd w A n xs) (h2 : Rd w B m ys) (hn : n ≤ 140737488355328) (hm : m ≤ 140737488355328) :
    Calls Tryz.prog 19 #[.slice A n c, .slice B m d] w fun e w' => e = .returned (.bool (ahead xs ys)) ∧ Hid (∃ q, w' = w.drewN q) := by
  have HA := kept h1
  have HB := kept h2
  clear h1 h2
  go_enter Tryz.func19, Tryz.ntmps19
  go_wp2
  go_loopw [5] (fun i wr => ∃ k : Nat, k ≤ n ∧ k ≤ m ∧ i = .int .i64 k ∧ Hid (Alike xs ys k) ∧ Hid (∃ q, wr = w.drewN q)) (fun i _ => n - (intOf i).toNat)
  case atStart => exact ⟨0, by omega, by omega, rfl, alike_zero _ _, ⟨0, rfl⟩⟩
  case round =>
    obtain ⟨k, hk1, hk2, rfl, HC, HW⟩ := hrel
    by_cases hlt : k < n ∧ k < m
    · obtain ⟨hl1, hl2⟩ := hlt
      obtain ⟨q, rfl⟩ := HW.out
      obtain ⟨a, b, x, y, rfl, rfl, hca, hcb, hx, hy, hcase⟩ := alike_next HA.out HB.out HC.out hl1 hl2
      have hi1 : (0 : Int) ≤ (k : Int) := by omega
      have hi2 : (k : Int) < (n : Int) := by omega
      have hi3 : (k : Int) < (m : Int) := by omega
      rcases hcase with ⟨e, HE⟩ | ⟨e, _, HE⟩
      · subst e
        go_wp2
        go_quiet (fail)
        go_wp2
        go_roundw
        case rel => exact ⟨k + 1, by omega, by omega, by go_num, HE, ⟨_, rfl⟩⟩
        case measure => simp [intOf]; omega
      · have hb : ((x : Int) != (y : Int)) = true := by simp; omega
        clear e
        go_wp2
        go_quiet (fail)
        go_wp2
        go_quiet (fail)
        go_wp2
        go_ret
        exact ⟨ret_bool (by rw [HE.out]), drawn3 _ _ _ _⟩
    · have HE := kept (alike_end HA.out.1 HB.out.1 HC.out hk1 hk2 (by omega)).2
      by_cases hkm : k < m
      · have hkn : k = n := by omega
        subst hkn
        go_wp2
        go_ret
        exact ⟨ret_bool (by rw [HE.out]; simp [hkm]), HW.out⟩
      · go_wp2
        go_ret
        exact ⟨ret_bool (by rw [HE.out]; simp [hkm]), HW.out⟩

end Go.Proofs.YtlckeebbjnhejaaGreat
end

section
/-
  What octets.End, In, endless and the library's Clone and the document's own Full, End and In answer, call by call.
-/
namespace Go.Proofs.YtlckeebbjnhejaaGreat
open Go.ChangeShapes Go.WideShapes Go.ChangeAt Go.RowKit
set_option linter.unusedVariables false

/-- Every row of bytes is of 255s alone, or ends in 255s behind one other byte. -/
theorem tail_cases : ∀ xs : List UInt8, (∀ x ∈ xs, x = 255) ∨ ∃ (p : List UInt8) (x : UInt8) (k : Nat), xs = p ++ x :: List.replicate k 255 ∧ x ≠ 255
  | [] => .inl (by simp)
  | y :: r => by
    rcases tail_cases r with h | ⟨p, x, k, rfl, hx⟩
    · by_cases e : y = 255
      · refine .inl ?_
        intro z hz
        rcases List.mem_cons.1 hz with h' | h'
        · rw [h', e]
        · exact h z h'
      · exact .inr ⟨[], y, r.length, by rw [List.nil_append, ← List.eq_replicate_iff.2 ⟨rfl, h⟩], e⟩
    · exact .inr ⟨y :: p, x, k, rfl, hx⟩
theorem full_get {xs : List UInt8} (h : ∀ x ∈ xs, x = 255) {i : Nat} (hi : i < xs.length) : xs[i].toNat = 255 := by rw [h _ (List.getElem_mem hi)]; rfl
theorem tail_get {p : List UInt8} {x : UInt8} {k i : Nat} (h1 : p.length < i) (h2 : i < (p ++ x :: List.replicate k 255).length) : (p ++ x :: List.replicate k (255 : UInt8))[i].toNat = 255 := by
  rw [List.getElem_append_right (by omega)]
  obtain ⟨j, hj⟩ : ∃ j, i - p.length = j + 1 := ⟨i - p.length - 1, by omega⟩
  simp [hj]
theorem mid_get {p : List UInt8} {x : UInt8} {k : Nat} (h : p.length < (p ++ x :: List.replicate k (255 : UInt8)).length) : (p ++ x :: List.replicate k (255 : UInt8))[p.length] = x := by
  rw [List.getElem_append_right (by omega)]
  simp

theorem take_mid (p : List UInt8) (x : UInt8) (r : List UInt8) {l : Nat} (h : p.length = l) : (p ++ x :: r).take (l + 1) = p ++ [x] := by
  subst h
  rw [List.take_append, List.take_of_length_le (by omega)]
  simp
theorem set_mid (p : List UInt8) (x y : UInt8) {l : Nat} (h : p.length = l) : (cellsOf (p ++ [x])).set l (byteV y) = cellsOf (p ++ [y]) := by
  subst h
  rw [cellsOf_append, cellsOf_append]
  conv => lhs; arg 2; rw [← cellsOf_length p]
  simp [cellsOf]
def full (xs : List UInt8) : Bool := decide (∀ x ∈ xs, x = 255)
theorem set_mid2 (p : List UInt8) (x y : UInt8) (r : List UInt8) {l : Nat} (h : p.length = l) : (cellsOf (p ++ x :: r)).set l (byteV y) = cellsOf (p ++ y :: r) := by
  subst h
  rw [cellsOf_append, cellsOf_append]
  conv => lhs; arg 2; rw [← cellsOf_length p]
  simp [cellsOf]
theorem endless_any (A : Option Addr) (n c : Nat) (xs : List UInt8) (w : World) (hr : Rd w A n xs) (hl : n ≤ 140737488355328) :
    Calls Tryz.prog 87 #[.slice A n c] w fun e w' => e = .returned (.bool (decide (xs = [0]))) ∧ w = w' := by
  have hx := hr.1
  by_cases h1 : n = 1
  · subst h1
    obtain ⟨a, rfl, hc⟩ := hr.at_ (k := 0) (by omega)
    obtain ⟨x, rfl⟩ : ∃ x, xs = [x] := List.length_eq_one_iff.1 hx
    have hc' : w.cell? a = some (.int .u8 (x.toNat : Int)) := by
      have := hc
      simpa [Addr.add] using this
    have HE : Hid (decide ([x] = [(0 : UInt8)]) = ((x.toNat : Int) == 0)) := by
      show _ = _
      by_cases h : x = 0
      · subst h; rfl
      · have h2 : x.toNat ≠ 0 := fun e => h (UInt8.toNat_inj.1 e)
        have h3 : ((x.toNat : Int) == 0) = false := by simp; omega
        rw [h3]
        simp [h]
    have hbt := x.toNat_lt
    generalize hxn : x.toNat = y at hc' HE hbt
    clear hr hc hxn hx
    go_enter Tryz.func87, Tryz.ntmps87
    go_wp2
    go_ret
    exact ⟨ret_bool (by rw [HE.out]), rfl⟩
  · have HE : Hid (decide (xs = [(0 : UInt8)]) = false) := by
      show _ = _
      simp only [decide_eq_false_iff_not]
      rintro rfl
      exact h1 (by simpa using hx.symm)
    have hb : ((n : Int) == 1) = false := by simp; omega
    clear hr hx h1
    go_enter Tryz.func87, Tryz.ntmps87
    go_wp2
    go_ret
    exact ⟨ret_bool (by rw [HE.out]), rfl⟩

theorem ahead_self : ∀ a : List UInt8, ahead a a = false
  | [] => rfl
  | x :: a => by simp [ahead, ahead_self a]
theorem ahead_asymm : ∀ a b : List UInt8, ahead a b = true → ahead b a = false
  | _, [], h => by simp [ahead] at h
  | [], _ :: _, _ => by simp [ahead]
  | x :: a, y :: b, h => by
    unfold ahead at h ⊢
    by_cases e : x = y
    · subst e
      simp at h ⊢
      exact ahead_asymm a b h
    · rw [if_neg e] at h
      rw [if_neg (fun e' => e e'.symm)]
      simp only [decide_eq_true_eq, decide_eq_false_iff_not] at h ⊢
      rw [UInt8.lt_iff_toNat_lt] at h ⊢
      omega
theorem ahead_eq : ∀ a b : List UInt8, ahead a b = false → ahead b a = false → a = b
  | [], [], _, _ => rfl
  | [], _ :: _, h, _ => by simp [ahead] at h
  | _ :: _, [], _, h => by simp [ahead] at h
  | x :: a, y :: b, h, h' => by
    unfold ahead at h h'
    by_cases e : x = y
    · subst e
      rw [if_pos rfl] at h h'
      rw [ahead_eq a b h h']
    · rw [if_neg e] at h
      rw [if_neg (fun e' => e e'.symm)] at h'
      simp only [decide_eq_false_iff_not] at h h'
      rw [UInt8.lt_iff_toNat_lt] at h h'
      exact absurd (UInt8.toNat_inj.1 (by omega)) e
/-- Is a key in a range? -/
def inB (k key end_ : List UInt8) : Bool := if end_ = [] then decide (k = key) else if ahead k key then false else decide (end_ = [0]) || ahead k end_

theorem in_any (A B C : Option Addr) (n m l c d f : Nat) (xs ys zs : List UInt8) (w : World) (h1 : Rd w A n xs) (h2 : Rd w B m ys) (h3 : Rd w C l zs) (hn : n ≤ 140737488355328) (hm : m ≤ 140737488355328) (hl : l ≤ 140737488355328) :
    Calls Tryz.prog 55 #[.slice A n c, .slice B m d, .slice C l f] w fun e w' => e = .returned (.bool (inB xs ys zs)) ∧ w = w' := by
  have H1 := kept (compare_any A B n m c d xs ys w h1 h2)
  have H2 := kept (compare_any A C n l c f xs zs w h1 h3)
  have H3 := kept (endless_any C l f zs w h3 hl)
  have hz := h3.1
  have HI : Hid (inB xs ys zs = if zs = [] then decide (xs = ys) else if ahead xs ys then false else decide (zs = [0]) || ahead xs zs) := rfl
  have HO1 : Hid (ordB xs ys = if ahead xs ys then -1 else if ahead ys xs then 1 else 0) := rfl
  have HO2 : Hid (ordB xs zs = if ahead xs zs then -1 else if ahead zs xs then 1 else 0) := rfl
  have HEQ := kept (fun h h' => ahead_eq xs ys h h')
  have HSE := kept (ahead_self xs)
  generalize inB xs ys zs = r at HI ⊢
  generalize ordB xs ys = o1 at H1 HO1
  generalize ordB xs zs = o2 at H2 HO2
  clear h1 h2 h3
  by_cases hl0 : l = 0
  · subst hl0
    obtain rfl : zs = [] := List.eq_nil_of_length_eq_zero hz
    have HR : Hid (r = (o1 == 0)) := by
      show r = _
      have hi := HI.out
      have ho := HO1.out
      rw [if_pos rfl] at hi
      rw [hi, ho]
      by_cases h : xs = ys
      · subst h; simp [HSE.out]
      · cases ha : ahead xs ys
        · cases hb : ahead ys xs
          · exact absurd (HEQ.out ha hb) h
          · simp [h]
        · simp [h]
    clear HI HO1 HO2 H2 H3 HEQ HSE hz
    go_enter Tryz.func55, Tryz.ntmps55
    go_wp2_with (first | (go_at_call 86; (with_reducible refine (H1.out).mono ?_); rintro e w' ⟨rfl, rfl⟩))
    go_ret
    exact ⟨ret_bool (by rw [HR.out]), rfl⟩
  · have hb : ((l : Int) == 0) = false := by simp; omega
    have hne : zs ≠ [] := by rintro rfl; exact hl0 (by simpa using hz.symm)
    have HR : Hid (r = if ahead xs ys then false else decide (zs = [0]) || ahead xs zs) := by
      have hi := HI.out
      rw [if_neg hne] at hi
      exact hi
    generalize decide (zs = [0]) = en at H3 HR
    have HA1 : Hid ((ahead xs ys = true ∧ decide (0 ≤ o1) = false) ∨ (ahead xs ys = false ∧ decide (0 ≤ o1) = true)) := by
      have ho := HO1.out
      cases ha : ahead xs ys
      · refine .inr ⟨rfl, ?_⟩
        rw [ho, ha]
        cases ahead ys xs <;> rfl
      · refine .inl ⟨rfl, ?_⟩
        rw [ho, ha]
        rfl
    have HA2 : Hid ((ahead xs zs = true ∧ decide (o2 < 0) = true) ∨ (ahead xs zs = false ∧ decide (o2 < 0) = false)) := by
      have ho := HO2.out
      cases ha : ahead xs zs
      · refine .inr ⟨rfl, ?_⟩
        rw [ho, ha]
        cases ahead zs xs <;> rfl
      · refine .inl ⟨rfl, ?_⟩
        rw [ho, ha]
        rfl
    generalize ahead xs ys = b1 at HR HA1
    generalize ahead xs zs = b2 at HR HA2
    clear HI HO1 HO2 HEQ HSE hz hne hl0
    rcases HA1.out with ⟨rfl, g1⟩ | ⟨rfl, g1⟩ <;> rcases HA2.out with ⟨rfl, g2⟩ | ⟨rfl, g2⟩ <;> cases en
    all_goals
      clear HA1 HA2
      go_enter Tryz.func55, Tryz.ntmps55
      go_wp2_with (first | (go_at_call 86; (with_reducible refine (H1.out).mono ?_); rintro e w' ⟨rfl, rfl⟩) | (go_at_call 87; (with_reducible refine (H3.out).mono ?_); rintro e w' ⟨rfl, rfl⟩) | (go_at_call 86; (with_reducible refine (H2.out).mono ?_); rintro e w' ⟨rfl, rfl⟩))
      go_ret
      exact ⟨ret_bool (by rw [HR.out]; rfl), rfl⟩

end Go.Proofs.YtlckeebbjnhejaaGreat
end
