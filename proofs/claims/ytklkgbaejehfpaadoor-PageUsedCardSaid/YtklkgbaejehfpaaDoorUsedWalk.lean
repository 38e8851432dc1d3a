/-
  The law PageUsed walked.
-/
import Derived.Test.YtklkgbaejehfpaaDoorLv
import Derived.Test.YtklkgbaejehfpaaDoorOw
namespace Go.Proofs.YtklkgbaejehfpaaDoor.pageUsed
open Go.ChangeShapes Go.WideShapes Go.ChangeAt Go.RowKit
set_option linter.unusedVariables false
set_option linter.unusedSimpArgs false

theorem walk_lives (w : World) (hf : Fours w) (A : Option Addr) (n c : Nat) (a1 : Int) (hl : n ≤ 140737488351232) (h : 100 < n) :
    Calls Tryd.prog 7 #[.slice A n c, .int .i64 a1] w fun e w' => e = .returned (.bool true) ∧ Below w.heap.size w w' := by
  have HL := kept (lives_any w hf)
  have HF := kept hf
  clear hf
  go_enter Tryd.func7, Tryd.ntmps7
  go_wp2_with fail
  with_reducible refine HL.out.mono ?_
  rintro e w1 ⟨rfl, hb⟩
  have HB := kept hb
  have HL2 := kept (lives_any w1 (HF.out.below hb))
  clear hb
  go_wp2_with fail
  with_reducible refine HL2.out.mono ?_
  rintro e w2 ⟨rfl, hb2⟩
  have HB2 := kept (HB.out.trans (hb2.mono HB.out.size))
  clear hb2
  go_wp2
  go_ret
  exact ⟨rfl, HB2.out⟩
/-- The law's own items. -/
def vOf (ks : List UInt8) (i : Nat) : Nat := (ks.getD i 0).toNat % 60
def itOf (ks : List UInt8) (i : Nat) : Itm := ⟨[UInt8.ofNat i], List.replicate (vOf ks i) 0, (vOf ks i : Int), 0⟩
def itsOf (ks : List UInt8) (k : Nat) : List Itm := (List.range k).map (itOf ks)
theorem itsOf_succ (ks : List UInt8) (k : Nat) : itsOf ks (k + 1) = itsOf ks k ++ [itOf ks k] := by simp [itsOf, List.range_succ]
theorem itsOf_get (ks : List UInt8) {k i : Nat} (h : i < (itsOf ks k).length) : (itsOf ks k)[i] = itOf ks i := by simp [itsOf]
def pgOf (ks : List UInt8) (k : Nat) : Pg := ⟨1, 0, 0, itsOf ks k, [], [], []⟩
/-- The state of the first loop. -/
def Lp (w : World) (b : Nat) (ks : List UInt8) (k : Nat) (wr : World) : Prop :=
  ∃ A c, Blk wr b 28 [.int .i64 1, .int .u64 0, .int .i64 0, .slice A k c, .slice none 0 0, .slice none 0 0, .slice none 0 0] ∧ Ow kItem wr w.heap.size 54 (fun g => g = b) A k c (itsOf ks k) ∧ Below w.heap.size w wr ∧ w.heap.size ≤ b
theorem itemInfo : (Tryd.prog.info? 54).map (fun i => (i.zero, i.size, i.bytes)) = some (some (.agg #[.slice none 0 0, .slice none 0 0, .int .i64 0, .int .i64 0]), kItem.size, 64) := by kernel_rfl
/-- A row of noughts, made. -/
theorem make_zero (n : Nat) (hn : n < 600) : ∃ Z : Obj, (∀ W : World, (Instr.makeSlice 25 (.int .i64 (n : Int)) (.int .i64 (n : Int))).run Tryd.prog W = .ok (.slice (some ⟨W.heap.size, 0, none⟩) n n) (W.alloc Z)) ∧ ∀ W : World, Rd (W.alloc Z) (some ⟨W.heap.size, 0, none⟩) n (List.replicate n 0) := by
  obtain ⟨i, hi, hz, hsz, hby⟩ := info_parts u8info
  refine ⟨.cells (cellsOf (List.replicate n 0)).toArray 5 (0, 0), fun W => ?_, fun W => ?_⟩
  · have hmk := run_make (P := Tryd.prog) W 25 5 i (.int .u8 0) Tryd.underlying25 hi hz .i64 .i64 (n : Int) (n : Int) (by omega) (by omega) (by rw [hby]; omega) (by omega)
    rw [hsz] at hmk
    have e : madeCells (Value.int .u8 0).cells ((n : Int).toNat * 1) = (cellsOf (List.replicate n 0)).toArray := by
      rw [Int.toNat_natCast, Nat.mul_one]
      apply Array.toList_inj.1
      rw [show (Value.int .u8 0).cells = #[.int .u8 0] from rfl, toList_madeCells_one]
      simp [cellsOf, byteV]
    rw [e, Int.toNat_natCast] at hmk
    exact hmk
  · have := Rd.marked W 5 (List.replicate n 0) (0, 0)
    rwa [List.length_replicate] at this
theorem it_ok (ks : List UInt8) (i : Nat) : itemOk (itOf ks i) = true := by
  have hv : vOf ks i < 60 := Nat.mod_lt _ (by omega)
  unfold itemOk itOf
  simp
  omega
theorem it_cmp (ks : List UInt8) (i : Nat) (h : i + 1 < 256) : cmpI (itOf ks i) (itOf ks (i + 1)) < 0 := by
  have h1 : UInt8.ofNat i < UInt8.ofNat (i + 1) := by rw [UInt8.lt_iff_toNat_lt, UInt8.toNat_ofNat', UInt8.toNat_ofNat']; omega
  have h2 : UInt8.ofNat i ≠ UInt8.ofNat (i + 1) := fun e => by rw [e] at h1; exact absurd h1 (UInt8.lt_irrefl _)
  unfold cmpI ordB itOf
  simp only [ahead, h2, if_false, decide_eq_true h1, if_true]
  decide
theorem its_length (ks : List UInt8) (n : Nat) : (itsOf ks n).length = n := by simp [itsOf]
theorem its_ord (ks : List UInt8) (n : Nat) (hn : n ≤ 100) : ∀ k, k ≤ n → ordU itemOk cmpI (itsOf ks n) k = true
  | 0, _ => ordU_zero
  | 1, h => ordU_first (by rw [its_length]; omega) (by rw [itsOf_get]; exact it_ok ks 0)
  | k + 2, h => ordU_next (by rw [its_length]; omega) (its_ord ks n hn (k + 1) (by omega)) (by rw [itsOf_get]; exact it_ok ks _) (by rw [itsOf_get, itsOf_get]; exact it_cmp ks k (by omega))
theorem pg_right (ks : List UInt8) (n : Nat) (h0 : 0 < n) (hn : n ≤ 100) : rightB (pgOf ks n) = decide (usedN (pgOf ks n) ≤ 237) := by
  have h1 : ownB (pgOf ks n) = true := by simp [ownB, pgOf, its_length]; omega
  have h2 : nextB (pgOf ks n) = true := by simp [nextB, pgOf]
  have h3 : thingsB (pgOf ks n) = true := by
    unfold thingsB
    have := its_ord ks n hn n (Nat.le_refl _)
    show (ordU itemOk cmpI (itsOf ks n) (itsOf ks n).length && _ && _) = true
    rw [its_length, this]
    simp [pgOf, ordU]
  unfold rightB
  rw [h1, h2, h3]
  rfl
theorem pg_used (ks : List UInt8) (n : Nat) : usedN (pgOf ks n) = ((itsOf ks n).map itemUse).sum := by simp [usedN, pgOf]
theorem it_use (ks : List UInt8) (i : Nat) : itemUse (itOf ks i) = 4 + vOf ks i := by
  have hv : vOf ks i < 60 := Nat.mod_lt _ (by omega)
  unfold itemUse itOf
  simp only [List.length_cons, List.length_nil, List.length_replicate]
  rw [if_pos (by omega)]
theorem its_use_le (ks : List UInt8) (n : Nat) (hn : n ≤ 100) : ((itsOf ks n).map itemUse).sum ≤ 9900 := by
  have := sum_le_mul (f := itemUse) (m := 99) (I := itsOf ks n) (fun x hx => by
    obtain ⟨i, hi, rfl⟩ := List.getElem_of_mem hx
    rw [itsOf_get, it_use]
    have hv : vOf ks i < 60 := Nat.mod_lt _ (by omega)
    omega)
  rw [its_length] at this
  omega
def usLay (A : Option Addr) (n c : Nat) : Lay := ⟨1, 0, 0, A, n, c, none, 0, 0, none, 0, 0, none, 0, 0⟩
theorem us_rd {w : World} {A : Option Addr} {n c : Nat} {ks : List UInt8} (h : RdItems w A n (itsOf ks n)) (hn : n ≤ 100) : RdPg w (usLay A n c) (pgOf ks n) :=
  ⟨rfl, rfl, rfl, h, RdKids.nil_ _ _, Rd.nil_ _ _, RdNums.nil_ _ _, by show (0 : Int) ≤ 0; omega, by show (0 : Int) < 18446744073709551616; omega, by show n ≤ _; omega, by show (0 : Nat) ≤ _; omega, by show (0 : Nat) ≤ _; omega, by show (0 : Nat) ≤ _; omega⟩
def piecePg (m : Nat) : Pg := ⟨3, 0, 0, [], [], List.replicate m 0, []⟩
theorem piece_ok (m : Nat) : rightB (piecePg m) = (decide (1 ≤ m) && decide (m ≤ 237)) := by
  rw [Bool.eq_iff_iff]
  simp [rightB, ownB, nextB, thingsB, ordU, usedN, piecePg]
  omega
def pcLay (w : World) (m : Nat) : Lay := ⟨3, 0, 0, none, 0, 0, none, 0, 0, some ⟨w.heap.size, 0, none⟩, m, m, none, 0, 0⟩
abbrev PcW (w : World) (Z : Obj) (m : Nat) : World := (w.alloc Z).alloc (.cells #[.int .i64 3, .int .u64 0, .int .i64 0, .slice none 0 0, .slice none 0 0, .slice (some ⟨w.heap.size, 0, none⟩) m m, .slice none 0 0] 28)
theorem pc_below (w : World) (Z : Obj) (m : Nat) : Below w.heap.size w (PcW w Z m) := ((Below.refl _ w).alloc (Nat.le_refl _) _).alloc (by simp) _
theorem pc_sev (w : World) (Z : Obj) (m : Nat) {X : World} (h : Below (PcW w Z m).heap.size (PcW w Z m) X) : Sev X (w.heap.size + 1) 3 0 0 none 0 0 none 0 0 (some ⟨w.heap.size, 0, none⟩) m m none 0 0 := by
  have := sev_box (w.alloc Z) 3 0 0 none 0 0 none 0 0 (some ⟨w.heap.size, 0, none⟩) m m none 0 0 (X := X) 28 h
  rwa [World.size_alloc] at this
theorem pc_rd (w : World) (Z : Obj) (m : Nat) (hm : m < 600) (hz : ∀ W : World, Rd (W.alloc Z) (some ⟨W.heap.size, 0, none⟩) m (List.replicate m 0)) : RdPg (PcW w Z m) (pcLay w m) (piecePg m) :=
  ⟨rfl, rfl, rfl, RdItems.nil_ _ _, RdKids.nil_ _ _, (hz w).alloc _, RdNums.nil_ _ _, by show (0 : Int) ≤ 0; omega, by show (0 : Int) < 18446744073709551616; omega, by show (0 : Nat) ≤ _; omega, by show (0 : Nat) ≤ _; omega, by show m ≤ _; omega, by show (0 : Nat) ≤ _; omega⟩
theorem piece_right (w : World) (Z : Obj) (m : Nat) (hm : m < 600) (hz : ∀ W : World, Rd (W.alloc Z) (some ⟨W.heap.size, 0, none⟩) m (List.replicate m 0)) {X : World} (h : Below (PcW w Z m).heap.size (PcW w Z m) X) :
    Calls Tryd.prog 14 #[.agg #[.int .i64 3, .int .u64 0, .int .i64 0, .slice none 0 0, .slice none 0 0, .slice (some ⟨w.heap.size, 0, none⟩) m m, .slice none 0 0]] X fun e w' => e = .returned (.bool (rightB (piecePg m))) ∧ Below X.heap.size X w' :=
  right_any (pcLay w m) (piecePg m) X ((pc_rd w Z m hm hz).below h)
theorem place0 (a1 : Int) : ∃ m : Nat, m < 500 ∧ wrap64 ((IntKind.u64.wrap a1).tmod 500) = (m : Int) := by
  rw [IntKind.wrap_u64]
  have h1 : 0 ≤ a1 % 18446744073709551616 := by omega
  rw [Int.tmod_eq_emod_of_nonneg h1]
  generalize a1 % 18446744073709551616 = y at h1
  refine ⟨(y % 500).toNat, by omega, ?_⟩
  rw [IntWalk.wrap64_in _ ⟨by omega, by omega⟩]
  omega
def keyLay (w : World) (v : Nat) : LayI := ⟨some ⟨w.heap.size + 1, 0, none⟩, 1, 1, some ⟨w.heap.size, 0, none⟩, v, v, (v : Int), 0⟩
theorem keyLay_apart (w : World) (v g : Nat) (hg : g < w.heap.size) : kItem.apart (keyLay w v) g := ⟨fun a e _ => by have := Option.some.inj e; subst this; show w.heap.size + 1 ≠ g; omega, fun a e _ => by have := Option.some.inj e; subst this; show w.heap.size ≠ g; omega⟩
abbrev W3 (wr : World) (Z : Obj) (k v : Nat) : World := ((wr.alloc Z).alloc (.cells #[.int .u8 (k : Int)] 5)).alloc (.cells #[.slice (some ⟨wr.heap.size + 1, 0, none⟩) 1 1, .slice (some ⟨wr.heap.size, 0, none⟩) v v, .int .i64 (v : Int), .int .i64 0] 54)
theorem w3_below (wr : World) (Z : Obj) (k v : Nat) : Below wr.heap.size wr (W3 wr Z k v) := (((Below.refl _ wr).alloc (Nat.le_refl _) _).alloc (by simp) _).alloc (by simp; omega) _
theorem w3_news (wr : World) (Z : Obj) (k v : Nat) : ∀ j u, (kItem.cells (keyLay wr v))[j]? = some u → (W3 wr Z k v).cell? ((⟨wr.heap.size + 1 + 1, 0, none⟩ : Addr).add j) = some u := fun j u hu => by
  have hs : ((wr.alloc Z).alloc (.cells #[.int .u8 (k : Int)] 5)).heap.size = wr.heap.size + 1 + 1 := by simp
  have := cell_of_row (W3 wr Z k v) _ j _ _ _ (heap_alloc_new ((wr.alloc Z).alloc (.cells #[.int .u8 (k : Int)] 5)) (.cells #[.slice (some ⟨wr.heap.size + 1, 0, none⟩) 1 1, .slice (some ⟨wr.heap.size, 0, none⟩) v v, .int .i64 (v : Int), .int .i64 0] 54))
  rw [hs] at this
  rw [add_at, Nat.zero_add]
  refine this.trans ?_
  have hu' : ([.slice (some ⟨wr.heap.size + 1, 0, none⟩) 1 1, .slice (some ⟨wr.heap.size, 0, none⟩) v v, .int .i64 (v : Int), .int .i64 0] : List Value)[j]? = some u := hu
  simpa using hu'
theorem w3_rd (wr : World) (Z : Obj) (k v : Nat) (hk : k < 256) (hv : v < 60) (hz : ∀ W : World, Rd (W.alloc Z) (some ⟨W.heap.size, 0, none⟩) v (List.replicate v 0)) : kItem.R (W3 wr Z k v) (keyLay wr v) ⟨[UInt8.ofNat k], List.replicate v 0, (v : Int), 0⟩ := by
  refine ⟨?_, ((hz wr).alloc _).alloc _, rfl, rfl, by show 1 ≤ _; omega, by show v ≤ _; omega⟩
  have h1 := (Rd.marked (wr.alloc Z) 5 [UInt8.ofNat k] (0, 0)).alloc (.cells #[.slice (some ⟨wr.heap.size + 1, 0, none⟩) 1 1, .slice (some ⟨wr.heap.size, 0, none⟩) v v, .int .i64 (v : Int), .int .i64 0] 54)
  rw [World.size_alloc] at h1
  have e : (cellsOf [UInt8.ofNat k]).toArray = #[Value.int .u8 (k : Int)] := by simp [cellsOf, byteV]; omega
  rw [e] at h1
  exact h1
/-- Behind the append, and the store. -/
theorem lp_step {w wr w4 : World} {Z : Obj} {b k v : Nat} {ks : List UInt8} {A2 : Option Addr} {c2 : Nat} (hblk : Blk wr b 28 [.int .i64 1, .int .u64 0, .int .i64 0, .slice A2 k c2, .slice none 0 0, .slice none 0 0, .slice none 0 0]) (how : Ow kItem wr w.heap.size 54 (fun g => g = b) A2 k c2 (itsOf ks k)) (hbel : Below w.heap.size w wr) (hbb : w.heap.size ≤ b)
    {A' : Option Addr} {c' : Nat} (h4 : Ow kItem w4 w.heap.size 54 (fun g => g = b) A' (k + 1) c' (itsOf ks k ++ [itOf ks k])) (hb4 : Below w.heap.size (W3 wr Z k v) w4) (hk4 : ∀ g, g < (W3 wr Z k v).heap.size → (Value.slice A2 k c2).ownBlock ≠ some g → w4.heap[g]? = (W3 wr Z k v).heap[g]?) :
    Lp w b ks (k + 1) (w4.setCell ⟨b, 3, none⟩ (.slice A' (k + 1) c')) ∧ w4.cell? ⟨b, 3, none⟩ = some (.slice A2 k c2) ∧ w4.frozen? ⟨b, 3, none⟩ = false := by
  have hlt := hblk.lt
  have hno : (Value.slice A2 k c2).ownBlock ≠ some b := fun e => by
    obtain ⟨Ls, _, _, _, _, hap, _⟩ := how
    exact (hap b e).2 rfl
  have h3 : Blk w4 b 28 [.int .i64 1, .int .u64 0, .int .i64 0, .slice A2 k c2, .slice none 0 0, .slice none 0 0, .slice none 0 0] := (hk4 b (by simp; omega) hno).trans (hblk.below (w3_below wr Z k v) hlt)
  have hB : Below w.heap.size w w4 := (hbel.trans ((w3_below wr Z k v).mono hbel.size)).trans hb4
  refine ⟨⟨A', c', h3.set_ 3 _, ?_, hB.setCell (p := ⟨b, 3, none⟩) hbb _, hbb⟩, h3.cell 3, h3.frozen 3⟩
  rw [itsOf_succ]
  exact h4.turn (r := b) ((Only.refl w4 b).setCell 3 _) (.inl rfl)
set_option maxRecDepth 100000 in
set_option maxHeartbeats 2000000 in
theorem walk_try (w : World) (hf : Fours w) (A : Option Addr) (n c : Nat) (ks : List UInt8) (hr : Rd w A n ks) (hl : n ≤ 100) (a1 : Int) (w1 : (Lit.int .i64 a1).wf = true) :
    Calls Tryd.prog 7 #[.slice A n c, .int .i64 a1] w fun e w' => e = .returned (.bool true) ∧ Below w.heap.size w w' := by
  have HL := kept (lives_any w hf)
  have HF := kept hf
  have HR := kept hr
  have hbd : decide ((100 : Int) < (n : Int)) = false := by simp; omega
  clear hf hr
  go_enter Tryd.func7, Tryd.ntmps7
  go_wp2_with fail
  with_reducible refine HL.out.mono ?_
  rintro e w2 ⟨rfl, hb⟩
  have HB := kept hb
  clear hb
  go_wp2
  have HL0 : Hid (Lp w w2.heap.size ks 0 (w2.alloc (.cells #[.int .i64 1, .int .u64 0, .int .i64 0, .slice none 0 0, .slice none 0 0, .slice none 0 0, .slice none 0 0] 28))) := kept ⟨none, 0, Blk.new w2 28 _, Ow.nil_ _, HB.out.alloc HB.out.size _, HB.out.size⟩
  go_loopw [26] (fun i wr => ∃ k : Nat, k ≤ n ∧ i = .int .i64 k ∧ Hid (Lp w w2.heap.size ks k wr)) (fun i _ => n - (intOf i).toNat)
  case atStart => exact ⟨0, by omega, rfl, HL0⟩
  case round =>
    obtain ⟨k, hk, rfl, HLP⟩ := hrel
    by_cases hlt : k < n
    · obtain ⟨A2, c2, hblk, how, hbel, hbb⟩ := HLP.out
      obtain ⟨a, rfl, hc⟩ := (HR.out.below hbel).at_ (k := k) (by have := HR.out.1; omega)
      have HBLK := kept hblk
      have HOW := kept how
      have HBEL := kept hbel
      have hcell : wr.cell? ⟨w2.heap.size, 3, none⟩ = some (.slice A2 k c2) := hblk.cell 3
      have hvk : vOf ks k = (ks[k]'(by have := HR.out.1; omega)).toNat % 60 := by unfold vOf; rw [List.getD_eq_getElem?_getD, List.getElem?_eq_getElem (by have := HR.out.1; omega)]; rfl
      have hx256 := (ks[k]'(by have := HR.out.1; omega)).toNat_lt
      have HV := kept hvk
      generalize (ks[k]'(by have := HR.out.1; omega)).toNat = x at hc hvk hx256 HV
      have hv60 : vOf ks k < 60 := by omega
      have HIT : Hid (itOf ks k = ⟨[UInt8.ofNat k], List.replicate (vOf ks k) 0, (vOf ks k : Int), 0⟩) := rfl
      generalize vOf ks k = v at hv60 HIT HV hvk
      obtain ⟨Z, hmk, hzr⟩ := make_zero v (by omega)
      have hxv : (x : Int) % 60 = (v : Int) := by omega
      have HXV := kept hxv
      have HZR := kept hzr
      have hcz : (wr.alloc Z).cell? ⟨w2.heap.size, 3, none⟩ = some (.slice A2 k c2) := (World.cell?_alloc_lt wr Z ⟨w2.heap.size, 3, none⟩ hblk.lt).trans hcell
      clear hblk how hbel hvk hzr HLP
      go_wp2_with (first | (at_builtin; refine wpList_append_ow (K := kItem) (F := fun g => g = w2.heap.size) rfl (.tmp 36) (.tmp 44) 23 rfl Tryd.underlying23 itemInfo rfl rfl (HOW.out.below (w3_below wr Z k v)) ⟨wr.heap.size + 1 + 1, 0, none⟩ 1 (keyLay wr v) (itOf ks k) rfl (w3_news wr Z k v) (by rw [HIT.out]; exact w3_rd wr Z k v (by omega) hv60 HZR.out) (fun g e => keyLay_apart wr v g (HOW.out.lt e).2) (fun g e => keyLay_apart wr v g (by rw [e]; exact HBLK.out.lt)) (fun g e => by rw [e]; have := HBLK.out.lt; simp; omega) (by unfold maxLen; omega) (by omega) (by have := HBEL.out.size; simp; omega) ?_; intro A4 c4 w4 how4 hb4 hk4; have HST := kept (lp_step HBLK.out HOW.out HBEL.out hbb how4 hb4 hk4); have hs1 := HST.out.2.1; have hs2 := HST.out.2.2; clear how4 hb4 hk4))
      go_roundw
      case rel => exact ⟨k + 1, by omega, by go_num, HST.out.1⟩
      case measure => simp [intOf]; omega
    · obtain rfl : k = n := by omega
      obtain ⟨A2, c2, hblk, how, hbel, hbb⟩ := HLP.out
      have hcell : wr.cell? ⟨w2.heap.size, 3, none⟩ = some (.slice A2 k c2) := hblk.cell 3
      have HBLK := kept hblk
      have HIT := kept how.items
      have HBEL := kept hbel
      clear hblk how hbel HLP
      go_wp2
      go_loopw [9, 51] (fun s i wx => ∃ j : Nat, j ≤ k ∧ i = .int .i64 j ∧ s = .int .i64 ((sumTo itemUse (itsOf ks k) j : Nat) : Int) ∧ Hid (Below wr.heap.size wr wx)) (fun _ i _ => k - (intOf i).toNat)
      case atStart => exact ⟨0, by omega, rfl, rfl, Below.refl _ _⟩
      case round =>
        obtain ⟨j, hj, rfl, rfl, HX⟩ := hrel
        rename World => wx
        have hle := sumTo_le (f := itemUse) (I := itsOf ks k) (j + 1)
        have hmax := its_use_le ks k hl
        by_cases hlt : j < k
        · obtain ⟨b, o, L, rfl, hrd, hc0, hc1, hc2, hc3⟩ := (HIT.out.below HX.out).at_ hlt
          have hki : j < (itsOf ks k).length := by rw [its_length]; exact hlt
          have hss := sumTo_succ (f := itemUse) hki
          have hvl : L.vn = vOf ks j := by have := hrd.2.1.1; rw [itsOf_get] at this; simpa [itOf] using this.symm
          rw [itsOf_get, it_use] at hss
          rw [hss] at hle
          have HSS := kept hss
          have hv60 : vOf ks j < 60 := Nat.mod_lt _ (by omega)
          have HBA : Hid (∀ o, Below wr.heap.size wr (wx.alloc o)) := kept (fun o => HX.out.alloc HX.out.size o)
          obtain ⟨ka, kn, kc, va, vn, vc, size, more⟩ := L
          simp only at hc0 hc1 hc2 hc3 hvl
          subst hvl
          generalize vOf ks j = v at *
          generalize sumTo itemUse (itsOf ks k) j = sj at *
          have hb2 : sj + (4 + v) ≤ 9900 := by omega
          clear hrd hss hle hmax
          go_wp2
          go_roundw
          case rel => exact ⟨j + 1, by omega, by go_num, by rw [HSS.out]; go_num, HBA.out _⟩
          case measure => simp [intOf]; omega
        · obtain rfl : j = k := by omega
          have HB7 : Hid (∀ {X : World}, Below wr.heap.size wr X → Blk X w2.heap.size 28 [.int .i64 1, .int .u64 0, .int .i64 0, .slice A2 j c2, .slice none 0 0, .slice none 0 0, .slice none 0 0]) := kept (fun h => HBLK.out.below h HBLK.out.lt)
          have hv := HX.out
          have z0 : wx.cell? ⟨w2.heap.size, 0, none⟩ = some (.int .i64 1) := (HB7.out hv).cell 0
          have z1 : wx.cell? ⟨w2.heap.size, 1, none⟩ = some (.int .u64 0) := (HB7.out hv).cell 1
          have z2 : wx.cell? ⟨w2.heap.size, 2, none⟩ = some (.int .i64 0) := (HB7.out hv).cell 2
          have z3 : wx.cell? ⟨w2.heap.size, 3, none⟩ = some (.slice A2 j c2) := (HB7.out hv).cell 3
          have z4 : wx.cell? ⟨w2.heap.size, 4, none⟩ = some (.slice none 0 0) := (HB7.out hv).cell 4
          have z5 : wx.cell? ⟨w2.heap.size, 5, none⟩ = some (.slice none 0 0) := (HB7.out hv).cell 5
          have z6 : wx.cell? ⟨w2.heap.size, 6, none⟩ = some (.slice none 0 0) := (HB7.out hv).cell 6
          have hue : sumTo itemUse (itsOf ks j) j = usedN (pgOf ks j) := by rw [pg_used]; have := sumTo_all (f := itemUse) (I := itsOf ks j); rwa [its_length] at this
          rw [hue]
          have hmx : usedN (pgOf ks j) ≤ 9900 := by rw [pg_used]; exact its_use_le ks j hl
          have HUS := fun {X : World} (h : Below wr.heap.size wr X) => kept (used_any (usLay A2 j c2) (pgOf ks j) X (us_rd (HIT.out.below h) hl) (by omega))
          have HRI := fun {X : World} (h : Below wr.heap.size wr X) => kept (right_any (usLay A2 j c2) (pgOf ks j) X (us_rd (HIT.out.below h) hl))
          have HPR : Hid (0 < j → rightB (pgOf ks j) = decide (usedN (pgOf ks j) ≤ 237)) := kept (fun h => pg_right ks j h hl)
          generalize usedN (pgOf ks j) = u at hmx HUS HPR ⊢
          generalize rightB (pgOf ks j) = rb at HRI HPR
          have hcase : (j = 0) ∨ (0 < j ∧ u ≤ 237 ∧ rb = true) ∨ (0 < j ∧ 237 < u ∧ rb = false) := by
            rcases Nat.eq_zero_or_pos j with h | h
            · exact .inl h
            · by_cases h2 : u ≤ 237
              · exact .inr (.inl ⟨h, h2, by rw [HPR.out h]; simp [h2]⟩)
              · exact .inr (.inr ⟨h, by omega, by rw [HPR.out h]; simp [h2]⟩)
          clear hle hmax hue HPR
          simp only [usLay] at HUS HRI
          obtain ⟨m, hm5, hat⟩ := place0 a1
          obtain ⟨Zm, hmk, hmr⟩ := make_zero m (by omega)
          have HMR := kept hmr
          clear hmr
          have HDR := fun {X Y : World} (h : Below (PcW X Zm m).heap.size (PcW X Zm m) Y) => kept (piece_right X Zm m (by omega) HMR.out h)
          have hpr := piece_ok m
          generalize rightB (piecePg m) = db at HDR hpr
          rcases hcase with hj0 | ⟨hj0, hu, rfl⟩ | ⟨hj0, hu, rfl⟩
          · have hz : decide (0 < j) = false := by simp; omega
            clear hj0
            go_wp2_with (first | (go_at_call 22; (with_reducible refine ((HUS hv).out).mono ?_); rintro e w5 ⟨rfl, hb5⟩; have hb5 := below_to hb5 hv) | (go_at_call 23; (with_reducible refine (open_short _ _ _ _ (by omega)).mono ?_); rintro e w6 ⟨rfl, rfl⟩))
            have hw : Below w.heap.size w (PcW w5 Zm m) := below_to (below_to (pc_below w5 Zm m) hb5) HBEL.out
            have HS : Hid (∀ {X : World}, Below (PcW w5 Zm m).heap.size (PcW w5 Zm m) X → Sev X (w5.heap.size + 1) 3 0 0 none 0 0 none 0 0 (some ⟨w5.heap.size, 0, none⟩) m m none 0 0) := kept (fun h => pc_sev w5 Zm m h)
            have hs0 := HS.out (Below.refl _ (PcW w5 Zm m))
            clear z0 z1 z2 z3 z4 z5 z6 hmk HUS HRI
            by_cases hm0 : 1 ≤ m
            · have hmi : (1 : Int) ≤ (m : Int) := by omega
              have HPR : Hid (db = decide (m ≤ 237)) := kept (by rw [hpr]; simp [hm0])
              clear hpr
              refine wp_region_held_drew (S := (fun W' => Sev W' (w5.heap.size + 1) 3 0 0 none 0 0 none 0 0 (some ⟨w5.heap.size, 0, none⟩) m m none 0 0)) (by kernel_rfl) ?_ (fun hHeld => ?_)
              · ((try dsimp only); (first | exact hs0 | exact HS.out hb9))
              refine hand_take 0 (some 88) ?_ (by kernel_rfl) (by kernel_rfl) (by kernel_rfl) (by kernel_rfl) (by kernel_rfl) (fun _ _ _ h => h) ?_ (by assumption) ?_
              rotate_left
              · (intro o ho w hSw; (simp only [List.getElem?_toArray, List.getElem?_cons_succ, List.getElem?_cons_zero, Option.some.injEq] at ho); subst ho; (try dsimp only at hSw); go_simp; (first | done | with_reducible rfl))
              (try simp only [Act.put, List.setIfInBounds_toArray, List.set_cons_zero, List.set_cons_succ])
              refine hand_take 1 (some 89) ?_ (by kernel_rfl) (by kernel_rfl) (by kernel_rfl) (by kernel_rfl) (by kernel_rfl) (fun _ _ _ h => h) ?_ (by assumption) ?_
              rotate_left
              · (intro o ho w hSw; (simp only [List.getElem?_toArray, List.getElem?_cons_succ, List.getElem?_cons_zero, Option.some.injEq] at ho); subst ho; (try dsimp only at hSw); go_simp; (first | done | with_reducible rfl))
              (try simp only [Act.put, List.setIfInBounds_toArray, List.set_cons_zero, List.set_cons_succ])
              refine hand_take 2 (some 90) ?_ (by kernel_rfl) (by kernel_rfl) (by kernel_rfl) (by kernel_rfl) (by kernel_rfl) (fun _ _ _ h => h) ?_ (by assumption) ?_
              rotate_left
              · (intro o ho w hSw; (simp only [List.getElem?_toArray, List.getElem?_cons_succ, List.getElem?_cons_zero, Option.some.injEq] at ho); subst ho; (try dsimp only at hSw); go_simp; (first | done | with_reducible rfl))
              (try simp only [Act.put, List.setIfInBounds_toArray, List.set_cons_zero, List.set_cons_succ])
              refine hand_take 3 (some 91) ?_ (by kernel_rfl) (by kernel_rfl) (by kernel_rfl) (by kernel_rfl) (by kernel_rfl) (fun _ _ _ h => h) ?_ (by assumption) ?_
              rotate_left
              · (intro o ho w hSw; (simp only [List.getElem?_toArray, List.getElem?_cons_succ, List.getElem?_cons_zero, Option.some.injEq] at ho); subst ho; (try dsimp only at hSw); go_simp; (first | done | with_reducible rfl))
              (try simp only [Act.put, List.setIfInBounds_toArray, List.set_cons_zero, List.set_cons_succ])
              refine hand_take 5 (some 93) ?_ (by kernel_rfl) (by kernel_rfl) (by kernel_rfl) (by kernel_rfl) (by kernel_rfl) (fun _ _ _ h => h) ?_ (by assumption) ?_
              rotate_left
              · (intro o ho w hSw; (simp only [List.getElem?_toArray, List.getElem?_cons_succ, List.getElem?_cons_zero, Option.some.injEq] at ho); subst ho; (try dsimp only at hSw); go_simp; (first | done | with_reducible rfl))
              (try simp only [Act.put, List.setIfInBounds_toArray, List.set_cons_zero, List.set_cons_succ])
              refine hand_take 6 (some 94) ?_ (by kernel_rfl) (by kernel_rfl) (by kernel_rfl) (by kernel_rfl) (by kernel_rfl) (fun _ _ _ h => h) ?_ (by assumption) ?_
              rotate_left
              · (intro o ho w hSw; (simp only [List.getElem?_toArray, List.getElem?_cons_succ, List.getElem?_cons_zero, Option.some.injEq] at ho); subst ho; (try dsimp only at hSw); go_simp; (first | done | with_reducible rfl))
              (try simp only [Act.put, List.setIfInBounds_toArray, List.set_cons_zero, List.set_cons_succ])
              refine hand_take 7 (some 95) ?_ (by kernel_rfl) (by kernel_rfl) (by kernel_rfl) (by kernel_rfl) (by kernel_rfl) (fun _ _ _ h => h) ?_ (by assumption) ?_
              rotate_left
              · (intro o ho w hSw; (simp only [List.getElem?_toArray, List.getElem?_cons_succ, List.getElem?_cons_zero, Option.some.injEq] at ho); subst ho; (try dsimp only at hSw); go_simp; (first | done | with_reducible rfl))
              (try simp only [Act.put, List.setIfInBounds_toArray, List.set_cons_zero, List.set_cons_succ])
              refine hand_take 8 (some 96) ?_ (by kernel_rfl) (by kernel_rfl) (by kernel_rfl) (by kernel_rfl) (by kernel_rfl) (fun _ _ _ h => h) ?_ (by assumption) ?_
              rotate_left
              · (intro o ho w hSw; (simp only [List.getElem?_toArray, List.getElem?_cons_succ, List.getElem?_cons_zero, Option.some.injEq] at ho); subst ho; (try dsimp only at hSw); go_simp; (first | done | with_reducible rfl))
              (try simp only [Act.put, List.setIfInBounds_toArray, List.set_cons_zero, List.set_cons_succ])
              refine hand_ready 4 (by kernel_rfl) (by kernel_rfl) (fun o ho K hK => ?_)
              (simp only [List.getElem?_toArray, List.getElem?_cons_succ, List.getElem?_cons_zero, Option.some.injEq] at ho)
              subst ho
              go_simp
              ((go_at_call 14; (with_reducible refine (HDR (Below.refl _ _).drew).out.mono ?_); rintro e w9 ⟨rfl, hb9'⟩); have hb9 : Below (PcW w5 Zm m).heap.size (PcW w5 Zm m) w9 := below_of_drew1 hb9')
              (try go_wp2_with fail)
              refine hK.out _ _ ?_ (fun hHeld => ?_)
              · ((try dsimp only); (first | exact hs0 | exact HS.out hb9))
              clear hK K
              (try simp only [Act.put, List.setIfInBounds_toArray, List.set_cons_zero, List.set_cons_succ])
              refine hand_take 9 (some 97) ?_ (by kernel_rfl) (by kernel_rfl) (by kernel_rfl) (by kernel_rfl) (by kernel_rfl) (fun _ _ _ h => h) ?_ (by assumption) ?_
              rotate_left
              · (intro o ho w hSw; (simp only [List.getElem?_toArray, List.getElem?_cons_succ, List.getElem?_cons_zero, Option.some.injEq] at ho); subst ho; (try dsimp only at hSw); go_simp; (first | done | with_reducible rfl))
              (try simp only [Act.put, List.setIfInBounds_toArray, List.set_cons_zero, List.set_cons_succ])
              refine hand_take 10 (some 98) ?_ (by kernel_rfl) (by kernel_rfl) (by kernel_rfl) (by kernel_rfl) (by kernel_rfl) (fun _ _ _ h => h) ?_ (by assumption) ?_
              rotate_left
              · (intro o ho w hSw; (simp only [List.getElem?_toArray, List.getElem?_cons_succ, List.getElem?_cons_zero, Option.some.injEq] at ho); subst ho; (try dsimp only at hSw); go_simp; (first | done | with_reducible rfl))
              (try simp only [Act.put, List.setIfInBounds_toArray, List.set_cons_zero, List.set_cons_succ])
              refine hand_take 11 (some 99) ?_ (by kernel_rfl) (by kernel_rfl) (by kernel_rfl) (by kernel_rfl) (by kernel_rfl) (fun _ _ _ h => h) ?_ (by assumption) ?_
              rotate_left
              · (intro o ho w hSw; (simp only [List.getElem?_toArray, List.getElem?_cons_succ, List.getElem?_cons_zero, Option.some.injEq] at ho); subst ho; (try dsimp only at hSw); go_simp; (first | done | with_reducible rfl))
              (try simp only [Act.put, List.setIfInBounds_toArray, List.set_cons_zero, List.set_cons_succ])
              refine hand_take 12 (some 100) ?_ (by kernel_rfl) (by kernel_rfl) (by kernel_rfl) (by kernel_rfl) (by kernel_rfl) (fun _ _ _ h => h) ?_ (by assumption) ?_
              rotate_left
              · (intro o ho w hSw; (simp only [List.getElem?_toArray, List.getElem?_cons_succ, List.getElem?_cons_zero, Option.some.injEq] at ho); subst ho; (try dsimp only at hSw); go_simp; (first | done | with_reducible rfl))
              (try simp only [Act.put, List.setIfInBounds_toArray, List.set_cons_zero, List.set_cons_succ])
              refine hand_take 13 (some 101) ?_ (by kernel_rfl) (by kernel_rfl) (by kernel_rfl) (by kernel_rfl) (by kernel_rfl) (fun _ _ _ h => h) ?_ (by assumption) ?_
              rotate_left
              · (intro o ho w hSw; (simp only [List.getElem?_toArray, List.getElem?_cons_succ, List.getElem?_cons_zero, Option.some.injEq] at ho); subst ho; (try dsimp only at hSw); go_simp; (first | done | with_reducible rfl))
              (try simp only [Act.put, List.setIfInBounds_toArray, List.set_cons_zero, List.set_cons_succ])
              refine hand_take 14 (some 102) ?_ (by kernel_rfl) (by kernel_rfl) (by kernel_rfl) (by kernel_rfl) (by kernel_rfl) (fun _ _ _ h => h) ?_ (by assumption) ?_
              rotate_left
              · (intro o ho w hSw; (simp only [List.getElem?_toArray, List.getElem?_cons_succ, List.getElem?_cons_zero, Option.some.injEq] at ho); subst ho; (try dsimp only at hSw); go_simp; (first | done | with_reducible rfl))
              (try simp only [Act.put, List.setIfInBounds_toArray, List.set_cons_zero, List.set_cons_succ])
              refine hand_take 15 (some 103) ?_ (by kernel_rfl) (by kernel_rfl) (by kernel_rfl) (by kernel_rfl) (by kernel_rfl) (fun _ _ _ h => h) ?_ (by assumption) ?_
              rotate_left
              · (intro o ho w hSw; (simp only [List.getElem?_toArray, List.getElem?_cons_succ, List.getElem?_cons_zero, Option.some.injEq] at ho); subst ho; (try dsimp only at hSw); go_simp; (first | done | with_reducible rfl))
              (try simp only [Act.put, List.setIfInBounds_toArray, List.set_cons_zero, List.set_cons_succ])
              refine hand_take 16 (some 104) ?_ (by kernel_rfl) (by kernel_rfl) (by kernel_rfl) (by kernel_rfl) (by kernel_rfl) (fun _ _ _ h => h) ?_ (by assumption) ?_
              rotate_left
              · (intro o ho w hSw; (simp only [List.getElem?_toArray, List.getElem?_cons_succ, List.getElem?_cons_zero, Option.some.injEq] at ho); subst ho; (try dsimp only at hSw); go_simp; (first | done | with_reducible rfl))
              (try simp only [Act.put, List.setIfInBounds_toArray, List.set_cons_zero, List.set_cons_succ])
              refine hand_take 17 (some 4) ?_ (by kernel_rfl) (by kernel_rfl) (by kernel_rfl) (by kernel_rfl) (by kernel_rfl) (fun _ _ _ h => h) ?_ (by assumption) ?_
              rotate_left
              · (intro o ho w hSw; (simp only [List.getElem?_toArray, List.getElem?_cons_succ, List.getElem?_cons_zero, Option.some.injEq] at ho); subst ho; (try dsimp only at hSw); go_simp; (first | done | with_reducible rfl))
              (try simp only [Act.put, List.setIfInBounds_toArray, List.set_cons_zero, List.set_cons_succ])
              refine wpAnyH_done (by kernel_rfl) ?_ _
              have HB9 := kept (hb9.mono hw.size)
              clear hb9 hb9' hmi
              go_wp2
              go_ret
              exact ⟨ret_bool (by rw [HPR.out]; simp <;> omega), hw.trans HB9.out⟩
            · have hmi : decide ((1 : Int) ≤ (m : Int)) = false := by simp; omega
              have HPR : Hid (db = false) := kept (by rw [hpr]; simp [hm0])
              clear hpr
              refine wp_region_held_drew (S := (fun W' => Sev W' (w5.heap.size + 1) 3 0 0 none 0 0 none 0 0 (some ⟨w5.heap.size, 0, none⟩) m m none 0 0)) (by kernel_rfl) ?_ (fun hHeld => ?_)
              · ((try dsimp only); (first | exact hs0 | exact HS.out hb9))
              refine hand_take 0 (some 88) ?_ (by kernel_rfl) (by kernel_rfl) (by kernel_rfl) (by kernel_rfl) (by kernel_rfl) (fun _ _ _ h => h) ?_ (by assumption) ?_
              rotate_left
              · (intro o ho w hSw; (simp only [List.getElem?_toArray, List.getElem?_cons_succ, List.getElem?_cons_zero, Option.some.injEq] at ho); subst ho; (try dsimp only at hSw); go_simp; (first | done | with_reducible rfl))
              (try simp only [Act.put, List.setIfInBounds_toArray, List.set_cons_zero, List.set_cons_succ])
              refine hand_take 1 (some 89) ?_ (by kernel_rfl) (by kernel_rfl) (by kernel_rfl) (by kernel_rfl) (by kernel_rfl) (fun _ _ _ h => h) ?_ (by assumption) ?_
              rotate_left
              · (intro o ho w hSw; (simp only [List.getElem?_toArray, List.getElem?_cons_succ, List.getElem?_cons_zero, Option.some.injEq] at ho); subst ho; (try dsimp only at hSw); go_simp; (first | done | with_reducible rfl))
              (try simp only [Act.put, List.setIfInBounds_toArray, List.set_cons_zero, List.set_cons_succ])
              refine hand_take 2 (some 90) ?_ (by kernel_rfl) (by kernel_rfl) (by kernel_rfl) (by kernel_rfl) (by kernel_rfl) (fun _ _ _ h => h) ?_ (by assumption) ?_
              rotate_left
              · (intro o ho w hSw; (simp only [List.getElem?_toArray, List.getElem?_cons_succ, List.getElem?_cons_zero, Option.some.injEq] at ho); subst ho; (try dsimp only at hSw); go_simp; (first | done | with_reducible rfl))
              (try simp only [Act.put, List.setIfInBounds_toArray, List.set_cons_zero, List.set_cons_succ])
              refine hand_take 3 (some 91) ?_ (by kernel_rfl) (by kernel_rfl) (by kernel_rfl) (by kernel_rfl) (by kernel_rfl) (fun _ _ _ h => h) ?_ (by assumption) ?_
              rotate_left
              · (intro o ho w hSw; (simp only [List.getElem?_toArray, List.getElem?_cons_succ, List.getElem?_cons_zero, Option.some.injEq] at ho); subst ho; (try dsimp only at hSw); go_simp; (first | done | with_reducible rfl))
              (try simp only [Act.put, List.setIfInBounds_toArray, List.set_cons_zero, List.set_cons_succ])
              refine hand_take 5 (some 93) ?_ (by kernel_rfl) (by kernel_rfl) (by kernel_rfl) (by kernel_rfl) (by kernel_rfl) (fun _ _ _ h => h) ?_ (by assumption) ?_
              rotate_left
              · (intro o ho w hSw; (simp only [List.getElem?_toArray, List.getElem?_cons_succ, List.getElem?_cons_zero, Option.some.injEq] at ho); subst ho; (try dsimp only at hSw); go_simp; (first | done | with_reducible rfl))
              (try simp only [Act.put, List.setIfInBounds_toArray, List.set_cons_zero, List.set_cons_succ])
              refine hand_take 6 (some 94) ?_ (by kernel_rfl) (by kernel_rfl) (by kernel_rfl) (by kernel_rfl) (by kernel_rfl) (fun _ _ _ h => h) ?_ (by assumption) ?_
              rotate_left
              · (intro o ho w hSw; (simp only [List.getElem?_toArray, List.getElem?_cons_succ, List.getElem?_cons_zero, Option.some.injEq] at ho); subst ho; (try dsimp only at hSw); go_simp; (first | done | with_reducible rfl))
              (try simp only [Act.put, List.setIfInBounds_toArray, List.set_cons_zero, List.set_cons_succ])
              refine hand_take 7 (some 95) ?_ (by kernel_rfl) (by kernel_rfl) (by kernel_rfl) (by kernel_rfl) (by kernel_rfl) (fun _ _ _ h => h) ?_ (by assumption) ?_
              rotate_left
              · (intro o ho w hSw; (simp only [List.getElem?_toArray, List.getElem?_cons_succ, List.getElem?_cons_zero, Option.some.injEq] at ho); subst ho; (try dsimp only at hSw); go_simp; (first | done | with_reducible rfl))
              (try simp only [Act.put, List.setIfInBounds_toArray, List.set_cons_zero, List.set_cons_succ])
              refine hand_take 8 (some 96) ?_ (by kernel_rfl) (by kernel_rfl) (by kernel_rfl) (by kernel_rfl) (by kernel_rfl) (fun _ _ _ h => h) ?_ (by assumption) ?_
              rotate_left
              · (intro o ho w hSw; (simp only [List.getElem?_toArray, List.getElem?_cons_succ, List.getElem?_cons_zero, Option.some.injEq] at ho); subst ho; (try dsimp only at hSw); go_simp; (first | done | with_reducible rfl))
              (try simp only [Act.put, List.setIfInBounds_toArray, List.set_cons_zero, List.set_cons_succ])
              refine hand_ready 4 (by kernel_rfl) (by kernel_rfl) (fun o ho K hK => ?_)
              (simp only [List.getElem?_toArray, List.getElem?_cons_succ, List.getElem?_cons_zero, Option.some.injEq] at ho)
              subst ho
              go_simp
              ((go_at_call 14; (with_reducible refine (HDR (Below.refl _ _).drew).out.mono ?_); rintro e w9 ⟨rfl, hb9'⟩); have hb9 : Below (PcW w5 Zm m).heap.size (PcW w5 Zm m) w9 := below_of_drew1 hb9')
              (try go_wp2_with fail)
              refine hK.out _ _ ?_ (fun hHeld => ?_)
              · ((try dsimp only); (first | exact hs0 | exact HS.out hb9))
              clear hK K
              (try simp only [Act.put, List.setIfInBounds_toArray, List.set_cons_zero, List.set_cons_succ])
              refine hand_take 9 (some 97) ?_ (by kernel_rfl) (by kernel_rfl) (by kernel_rfl) (by kernel_rfl) (by kernel_rfl) (fun _ _ _ h => h) ?_ (by assumption) ?_
              rotate_left
              · (intro o ho w hSw; (simp only [List.getElem?_toArray, List.getElem?_cons_succ, List.getElem?_cons_zero, Option.some.injEq] at ho); subst ho; (try dsimp only at hSw); go_simp; (first | done | with_reducible rfl))
              (try simp only [Act.put, List.setIfInBounds_toArray, List.set_cons_zero, List.set_cons_succ])
              refine hand_skip 10 (some 98) (by kernel_rfl) (by kernel_rfl) (by kernel_rfl) (by kernel_rfl) (by kernel_rfl) (fun _ _ _ h => h) (by assumption) ?_
              (try simp only [Act.put, List.setIfInBounds_toArray, List.set_cons_zero, List.set_cons_succ])
              refine hand_skip 11 (some 99) (by kernel_rfl) (by kernel_rfl) (by kernel_rfl) (by kernel_rfl) (by kernel_rfl) (fun _ _ _ h => h) (by assumption) ?_
              (try simp only [Act.put, List.setIfInBounds_toArray, List.set_cons_zero, List.set_cons_succ])
              refine hand_skip 12 (some 100) (by kernel_rfl) (by kernel_rfl) (by kernel_rfl) (by kernel_rfl) (by kernel_rfl) (fun _ _ _ h => h) (by assumption) ?_
              (try simp only [Act.put, List.setIfInBounds_toArray, List.set_cons_zero, List.set_cons_succ])
              refine hand_skip 13 (some 101) (by kernel_rfl) (by kernel_rfl) (by kernel_rfl) (by kernel_rfl) (by kernel_rfl) (fun _ _ _ h => h) (by assumption) ?_
              (try simp only [Act.put, List.setIfInBounds_toArray, List.set_cons_zero, List.set_cons_succ])
              refine hand_take 14 (some 102) ?_ (by kernel_rfl) (by kernel_rfl) (by kernel_rfl) (by kernel_rfl) (by kernel_rfl) (fun _ _ _ h => h) ?_ (by assumption) ?_
              rotate_left
              · (intro o ho w hSw; (simp only [List.getElem?_toArray, List.getElem?_cons_succ, List.getElem?_cons_zero, Option.some.injEq] at ho); subst ho; (try dsimp only at hSw); go_simp; (first | done | with_reducible rfl))
              (try simp only [Act.put, List.setIfInBounds_toArray, List.set_cons_zero, List.set_cons_succ])
              refine hand_take 15 (some 103) ?_ (by kernel_rfl) (by kernel_rfl) (by kernel_rfl) (by kernel_rfl) (by kernel_rfl) (fun _ _ _ h => h) ?_ (by assumption) ?_
              rotate_left
              · (intro o ho w hSw; (simp only [List.getElem?_toArray, List.getElem?_cons_succ, List.getElem?_cons_zero, Option.some.injEq] at ho); subst ho; (try dsimp only at hSw); go_simp; (first | done | with_reducible rfl))
              (try simp only [Act.put, List.setIfInBounds_toArray, List.set_cons_zero, List.set_cons_succ])
              refine hand_take 16 (some 104) ?_ (by kernel_rfl) (by kernel_rfl) (by kernel_rfl) (by kernel_rfl) (by kernel_rfl) (fun _ _ _ h => h) ?_ (by assumption) ?_
              rotate_left
              · (intro o ho w hSw; (simp only [List.getElem?_toArray, List.getElem?_cons_succ, List.getElem?_cons_zero, Option.some.injEq] at ho); subst ho; (try dsimp only at hSw); go_simp; (first | done | with_reducible rfl))
              (try simp only [Act.put, List.setIfInBounds_toArray, List.set_cons_zero, List.set_cons_succ])
              refine hand_take 17 (some 4) ?_ (by kernel_rfl) (by kernel_rfl) (by kernel_rfl) (by kernel_rfl) (by kernel_rfl) (fun _ _ _ h => h) ?_ (by assumption) ?_
              rotate_left
              · (intro o ho w hSw; (simp only [List.getElem?_toArray, List.getElem?_cons_succ, List.getElem?_cons_zero, Option.some.injEq] at ho); subst ho; (try dsimp only at hSw); go_simp; (first | done | with_reducible rfl))
              (try simp only [Act.put, List.setIfInBounds_toArray, List.set_cons_zero, List.set_cons_succ])
              refine wpAnyH_done (by kernel_rfl) ?_ _
              have HB9 := kept (hb9.mono hw.size)
              clear hb9 hb9' hmi
              go_wp2
              go_ret
              exact ⟨ret_bool (by rw [HPR.out]; simp <;> omega), hw.trans HB9.out⟩
          · have hu' : (u : Int) ≤ 237 := by omega
            go_wp2_with (first | (go_at_call 22; (with_reducible refine ((HUS hv).out).mono ?_); rintro e w4 ⟨rfl, hb4⟩; have hb4 := below_to hb4 hv; have y0 : w4.cell? ⟨w2.heap.size, 0, none⟩ = some (.int .i64 1) := (HB7.out hb4).cell 0; have y1 : w4.cell? ⟨w2.heap.size, 1, none⟩ = some (.int .u64 0) := (HB7.out hb4).cell 1; have y2 : w4.cell? ⟨w2.heap.size, 2, none⟩ = some (.int .i64 0) := (HB7.out hb4).cell 2; have y3 : w4.cell? ⟨w2.heap.size, 3, none⟩ = some (.slice A2 j c2) := (HB7.out hb4).cell 3; have y4 : w4.cell? ⟨w2.heap.size, 4, none⟩ = some (.slice none 0 0) := (HB7.out hb4).cell 4; have y5 : w4.cell? ⟨w2.heap.size, 5, none⟩ = some (.slice none 0 0) := (HB7.out hb4).cell 5; have y6 : w4.cell? ⟨w2.heap.size, 6, none⟩ = some (.slice none 0 0) := (HB7.out hb4).cell 6) | (go_at_call 14; (with_reducible refine ((HRI hb4).out).mono ?_); rintro e w5 ⟨rfl, hb5⟩; have hb5 := below_to hb5 hb4; clear y0 y1 y2 y3 y4 y5 y6) | (go_at_call 23; (with_reducible refine (open_short _ _ _ _ (by omega)).mono ?_); rintro e w6 ⟨rfl, rfl⟩))
            have hw : Below w.heap.size w (PcW w5 Zm m) := below_to (below_to (pc_below w5 Zm m) hb5) HBEL.out
            have HS : Hid (∀ {X : World}, Below (PcW w5 Zm m).heap.size (PcW w5 Zm m) X → Sev X (w5.heap.size + 1) 3 0 0 none 0 0 none 0 0 (some ⟨w5.heap.size, 0, none⟩) m m none 0 0) := kept (fun h => pc_sev w5 Zm m h)
            have hs0 := HS.out (Below.refl _ (PcW w5 Zm m))
            clear z0 z1 z2 z3 z4 z5 z6 hmk HUS HRI
            by_cases hm0 : 1 ≤ m
            · have hmi : (1 : Int) ≤ (m : Int) := by omega
              have HPR : Hid (db = decide (m ≤ 237)) := kept (by rw [hpr]; simp [hm0])
              clear hpr
              refine wp_region_held_drew (S := (fun W' => Sev W' (w5.heap.size + 1) 3 0 0 none 0 0 none 0 0 (some ⟨w5.heap.size, 0, none⟩) m m none 0 0)) (by kernel_rfl) ?_ (fun hHeld => ?_)
              · ((try dsimp only); (first | exact hs0 | exact HS.out hb9))
              refine hand_take 0 (some 88) ?_ (by kernel_rfl) (by kernel_rfl) (by kernel_rfl) (by kernel_rfl) (by kernel_rfl) (fun _ _ _ h => h) ?_ (by assumption) ?_
              rotate_left
              · (intro o ho w hSw; (simp only [List.getElem?_toArray, List.getElem?_cons_succ, List.getElem?_cons_zero, Option.some.injEq] at ho); subst ho; (try dsimp only at hSw); go_simp; (first | done | with_reducible rfl))
              (try simp only [Act.put, List.setIfInBounds_toArray, List.set_cons_zero, List.set_cons_succ])
              refine hand_take 1 (some 89) ?_ (by kernel_rfl) (by kernel_rfl) (by kernel_rfl) (by kernel_rfl) (by kernel_rfl) (fun _ _ _ h => h) ?_ (by assumption) ?_
              rotate_left
              · (intro o ho w hSw; (simp only [List.getElem?_toArray, List.getElem?_cons_succ, List.getElem?_cons_zero, Option.some.injEq] at ho); subst ho; (try dsimp only at hSw); go_simp; (first | done | with_reducible rfl))
              (try simp only [Act.put, List.setIfInBounds_toArray, List.set_cons_zero, List.set_cons_succ])
              refine hand_take 2 (some 90) ?_ (by kernel_rfl) (by kernel_rfl) (by kernel_rfl) (by kernel_rfl) (by kernel_rfl) (fun _ _ _ h => h) ?_ (by assumption) ?_
              rotate_left
              · (intro o ho w hSw; (simp only [List.getElem?_toArray, List.getElem?_cons_succ, List.getElem?_cons_zero, Option.some.injEq] at ho); subst ho; (try dsimp only at hSw); go_simp; (first | done | with_reducible rfl))
              (try simp only [Act.put, List.setIfInBounds_toArray, List.set_cons_zero, List.set_cons_succ])
              refine hand_take 3 (some 91) ?_ (by kernel_rfl) (by kernel_rfl) (by kernel_rfl) (by kernel_rfl) (by kernel_rfl) (fun _ _ _ h => h) ?_ (by assumption) ?_
              rotate_left
              · (intro o ho w hSw; (simp only [List.getElem?_toArray, List.getElem?_cons_succ, List.getElem?_cons_zero, Option.some.injEq] at ho); subst ho; (try dsimp only at hSw); go_simp; (first | done | with_reducible rfl))
              (try simp only [Act.put, List.setIfInBounds_toArray, List.set_cons_zero, List.set_cons_succ])
              refine hand_take 5 (some 93) ?_ (by kernel_rfl) (by kernel_rfl) (by kernel_rfl) (by kernel_rfl) (by kernel_rfl) (fun _ _ _ h => h) ?_ (by assumption) ?_
              rotate_left
              · (intro o ho w hSw; (simp only [List.getElem?_toArray, List.getElem?_cons_succ, List.getElem?_cons_zero, Option.some.injEq] at ho); subst ho; (try dsimp only at hSw); go_simp; (first | done | with_reducible rfl))
              (try simp only [Act.put, List.setIfInBounds_toArray, List.set_cons_zero, List.set_cons_succ])
              refine hand_take 6 (some 94) ?_ (by kernel_rfl) (by kernel_rfl) (by kernel_rfl) (by kernel_rfl) (by kernel_rfl) (fun _ _ _ h => h) ?_ (by assumption) ?_
              rotate_left
              · (intro o ho w hSw; (simp only [List.getElem?_toArray, List.getElem?_cons_succ, List.getElem?_cons_zero, Option.some.injEq] at ho); subst ho; (try dsimp only at hSw); go_simp; (first | done | with_reducible rfl))
              (try simp only [Act.put, List.setIfInBounds_toArray, List.set_cons_zero, List.set_cons_succ])
              refine hand_take 7 (some 95) ?_ (by kernel_rfl) (by kernel_rfl) (by kernel_rfl) (by kernel_rfl) (by kernel_rfl) (fun _ _ _ h => h) ?_ (by assumption) ?_
              rotate_left
              · (intro o ho w hSw; (simp only [List.getElem?_toArray, List.getElem?_cons_succ, List.getElem?_cons_zero, Option.some.injEq] at ho); subst ho; (try dsimp only at hSw); go_simp; (first | done | with_reducible rfl))
              (try simp only [Act.put, List.setIfInBounds_toArray, List.set_cons_zero, List.set_cons_succ])
              refine hand_take 8 (some 96) ?_ (by kernel_rfl) (by kernel_rfl) (by kernel_rfl) (by kernel_rfl) (by kernel_rfl) (fun _ _ _ h => h) ?_ (by assumption) ?_
              rotate_left
              · (intro o ho w hSw; (simp only [List.getElem?_toArray, List.getElem?_cons_succ, List.getElem?_cons_zero, Option.some.injEq] at ho); subst ho; (try dsimp only at hSw); go_simp; (first | done | with_reducible rfl))
              (try simp only [Act.put, List.setIfInBounds_toArray, List.set_cons_zero, List.set_cons_succ])
              refine hand_ready 4 (by kernel_rfl) (by kernel_rfl) (fun o ho K hK => ?_)
              (simp only [List.getElem?_toArray, List.getElem?_cons_succ, List.getElem?_cons_zero, Option.some.injEq] at ho)
              subst ho
              go_simp
              ((go_at_call 14; (with_reducible refine (HDR (Below.refl _ _).drew).out.mono ?_); rintro e w9 ⟨rfl, hb9'⟩); have hb9 : Below (PcW w5 Zm m).heap.size (PcW w5 Zm m) w9 := below_of_drew1 hb9')
              (try go_wp2_with fail)
              refine hK.out _ _ ?_ (fun hHeld => ?_)
              · ((try dsimp only); (first | exact hs0 | exact HS.out hb9))
              clear hK K
              (try simp only [Act.put, List.setIfInBounds_toArray, List.set_cons_zero, List.set_cons_succ])
              refine hand_take 9 (some 97) ?_ (by kernel_rfl) (by kernel_rfl) (by kernel_rfl) (by kernel_rfl) (by kernel_rfl) (fun _ _ _ h => h) ?_ (by assumption) ?_
              rotate_left
              · (intro o ho w hSw; (simp only [List.getElem?_toArray, List.getElem?_cons_succ, List.getElem?_cons_zero, Option.some.injEq] at ho); subst ho; (try dsimp only at hSw); go_simp; (first | done | with_reducible rfl))
              (try simp only [Act.put, List.setIfInBounds_toArray, List.set_cons_zero, List.set_cons_succ])
              refine hand_take 10 (some 98) ?_ (by kernel_rfl) (by kernel_rfl) (by kernel_rfl) (by kernel_rfl) (by kernel_rfl) (fun _ _ _ h => h) ?_ (by assumption) ?_
              rotate_left
              · (intro o ho w hSw; (simp only [List.getElem?_toArray, List.getElem?_cons_succ, List.getElem?_cons_zero, Option.some.injEq] at ho); subst ho; (try dsimp only at hSw); go_simp; (first | done | with_reducible rfl))
              (try simp only [Act.put, List.setIfInBounds_toArray, List.set_cons_zero, List.set_cons_succ])
              refine hand_take 11 (some 99) ?_ (by kernel_rfl) (by kernel_rfl) (by kernel_rfl) (by kernel_rfl) (by kernel_rfl) (fun _ _ _ h => h) ?_ (by assumption) ?_
              rotate_left
              · (intro o ho w hSw; (simp only [List.getElem?_toArray, List.getElem?_cons_succ, List.getElem?_cons_zero, Option.some.injEq] at ho); subst ho; (try dsimp only at hSw); go_simp; (first | done | with_reducible rfl))
              (try simp only [Act.put, List.setIfInBounds_toArray, List.set_cons_zero, List.set_cons_succ])
              refine hand_take 12 (some 100) ?_ (by kernel_rfl) (by kernel_rfl) (by kernel_rfl) (by kernel_rfl) (by kernel_rfl) (fun _ _ _ h => h) ?_ (by assumption) ?_
              rotate_left
              · (intro o ho w hSw; (simp only [List.getElem?_toArray, List.getElem?_cons_succ, List.getElem?_cons_zero, Option.some.injEq] at ho); subst ho; (try dsimp only at hSw); go_simp; (first | done | with_reducible rfl))
              (try simp only [Act.put, List.setIfInBounds_toArray, List.set_cons_zero, List.set_cons_succ])
              refine hand_take 13 (some 101) ?_ (by kernel_rfl) (by kernel_rfl) (by kernel_rfl) (by kernel_rfl) (by kernel_rfl) (fun _ _ _ h => h) ?_ (by assumption) ?_
              rotate_left
              · (intro o ho w hSw; (simp only [List.getElem?_toArray, List.getElem?_cons_succ, List.getElem?_cons_zero, Option.some.injEq] at ho); subst ho; (try dsimp only at hSw); go_simp; (first | done | with_reducible rfl))
              (try simp only [Act.put, List.setIfInBounds_toArray, List.set_cons_zero, List.set_cons_succ])
              refine hand_take 14 (some 102) ?_ (by kernel_rfl) (by kernel_rfl) (by kernel_rfl) (by kernel_rfl) (by kernel_rfl) (fun _ _ _ h => h) ?_ (by assumption) ?_
              rotate_left
              · (intro o ho w hSw; (simp only [List.getElem?_toArray, List.getElem?_cons_succ, List.getElem?_cons_zero, Option.some.injEq] at ho); subst ho; (try dsimp only at hSw); go_simp; (first | done | with_reducible rfl))
              (try simp only [Act.put, List.setIfInBounds_toArray, List.set_cons_zero, List.set_cons_succ])
              refine hand_take 15 (some 103) ?_ (by kernel_rfl) (by kernel_rfl) (by kernel_rfl) (by kernel_rfl) (by kernel_rfl) (fun _ _ _ h => h) ?_ (by assumption) ?_
              rotate_left
              · (intro o ho w hSw; (simp only [List.getElem?_toArray, List.getElem?_cons_succ, List.getElem?_cons_zero, Option.some.injEq] at ho); subst ho; (try dsimp only at hSw); go_simp; (first | done | with_reducible rfl))
              (try simp only [Act.put, List.setIfInBounds_toArray, List.set_cons_zero, List.set_cons_succ])
              refine hand_take 16 (some 104) ?_ (by kernel_rfl) (by kernel_rfl) (by kernel_rfl) (by kernel_rfl) (by kernel_rfl) (fun _ _ _ h => h) ?_ (by assumption) ?_
              rotate_left
              · (intro o ho w hSw; (simp only [List.getElem?_toArray, List.getElem?_cons_succ, List.getElem?_cons_zero, Option.some.injEq] at ho); subst ho; (try dsimp only at hSw); go_simp; (first | done | with_reducible rfl))
              (try simp only [Act.put, List.setIfInBounds_toArray, List.set_cons_zero, List.set_cons_succ])
              refine hand_take 17 (some 4) ?_ (by kernel_rfl) (by kernel_rfl) (by kernel_rfl) (by kernel_rfl) (by kernel_rfl) (fun _ _ _ h => h) ?_ (by assumption) ?_
              rotate_left
              · (intro o ho w hSw; (simp only [List.getElem?_toArray, List.getElem?_cons_succ, List.getElem?_cons_zero, Option.some.injEq] at ho); subst ho; (try dsimp only at hSw); go_simp; (first | done | with_reducible rfl))
              (try simp only [Act.put, List.setIfInBounds_toArray, List.set_cons_zero, List.set_cons_succ])
              refine wpAnyH_done (by kernel_rfl) ?_ _
              have HB9 := kept (hb9.mono hw.size)
              clear hb9 hb9' hmi
              go_wp2
              go_ret
              exact ⟨ret_bool (by rw [HPR.out]; simp <;> omega), hw.trans HB9.out⟩
            · have hmi : decide ((1 : Int) ≤ (m : Int)) = false := by simp; omega
              have HPR : Hid (db = false) := kept (by rw [hpr]; simp [hm0])
              clear hpr
              refine wp_region_held_drew (S := (fun W' => Sev W' (w5.heap.size + 1) 3 0 0 none 0 0 none 0 0 (some ⟨w5.heap.size, 0, none⟩) m m none 0 0)) (by kernel_rfl) ?_ (fun hHeld => ?_)
              · ((try dsimp only); (first | exact hs0 | exact HS.out hb9))
              refine hand_take 0 (some 88) ?_ (by kernel_rfl) (by kernel_rfl) (by kernel_rfl) (by kernel_rfl) (by kernel_rfl) (fun _ _ _ h => h) ?_ (by assumption) ?_
              rotate_left
              · (intro o ho w hSw; (simp only [List.getElem?_toArray, List.getElem?_cons_succ, List.getElem?_cons_zero, Option.some.injEq] at ho); subst ho; (try dsimp only at hSw); go_simp; (first | done | with_reducible rfl))
              (try simp only [Act.put, List.setIfInBounds_toArray, List.set_cons_zero, List.set_cons_succ])
              refine hand_take 1 (some 89) ?_ (by kernel_rfl) (by kernel_rfl) (by kernel_rfl) (by kernel_rfl) (by kernel_rfl) (fun _ _ _ h => h) ?_ (by assumption) ?_
              rotate_left
              · (intro o ho w hSw; (simp only [List.getElem?_toArray, List.getElem?_cons_succ, List.getElem?_cons_zero, Option.some.injEq] at ho); subst ho; (try dsimp only at hSw); go_simp; (first | done | with_reducible rfl))
              (try simp only [Act.put, List.setIfInBounds_toArray, List.set_cons_zero, List.set_cons_succ])
              refine hand_take 2 (some 90) ?_ (by kernel_rfl) (by kernel_rfl) (by kernel_rfl) (by kernel_rfl) (by kernel_rfl) (fun _ _ _ h => h) ?_ (by assumption) ?_
              rotate_left
              · (intro o ho w hSw; (simp only [List.getElem?_toArray, List.getElem?_cons_succ, List.getElem?_cons_zero, Option.some.injEq] at ho); subst ho; (try dsimp only at hSw); go_simp; (first | done | with_reducible rfl))
              (try simp only [Act.put, List.setIfInBounds_toArray, List.set_cons_zero, List.set_cons_succ])
              refine hand_take 3 (some 91) ?_ (by kernel_rfl) (by kernel_rfl) (by kernel_rfl) (by kernel_rfl) (by kernel_rfl) (fun _ _ _ h => h) ?_ (by assumption) ?_
              rotate_left
              · (intro o ho w hSw; (simp only [List.getElem?_toArray, List.getElem?_cons_succ, List.getElem?_cons_zero, Option.some.injEq] at ho); subst ho; (try dsimp only at hSw); go_simp; (first | done | with_reducible rfl))
              (try simp only [Act.put, List.setIfInBounds_toArray, List.set_cons_zero, List.set_cons_succ])
              refine hand_take 5 (some 93) ?_ (by kernel_rfl) (by kernel_rfl) (by kernel_rfl) (by kernel_rfl) (by kernel_rfl) (fun _ _ _ h => h) ?_ (by assumption) ?_
              rotate_left
              · (intro o ho w hSw; (simp only [List.getElem?_toArray, List.getElem?_cons_succ, List.getElem?_cons_zero, Option.some.injEq] at ho); subst ho; (try dsimp only at hSw); go_simp; (first | done | with_reducible rfl))
              (try simp only [Act.put, List.setIfInBounds_toArray, List.set_cons_zero, List.set_cons_succ])
              refine hand_take 6 (some 94) ?_ (by kernel_rfl) (by kernel_rfl) (by kernel_rfl) (by kernel_rfl) (by kernel_rfl) (fun _ _ _ h => h) ?_ (by assumption) ?_
              rotate_left
              · (intro o ho w hSw; (simp only [List.getElem?_toArray, List.getElem?_cons_succ, List.getElem?_cons_zero, Option.some.injEq] at ho); subst ho; (try dsimp only at hSw); go_simp; (first | done | with_reducible rfl))
              (try simp only [Act.put, List.setIfInBounds_toArray, List.set_cons_zero, List.set_cons_succ])
              refine hand_take 7 (some 95) ?_ (by kernel_rfl) (by kernel_rfl) (by kernel_rfl) (by kernel_rfl) (by kernel_rfl) (fun _ _ _ h => h) ?_ (by assumption) ?_
              rotate_left
              · (intro o ho w hSw; (simp only [List.getElem?_toArray, List.getElem?_cons_succ, List.getElem?_cons_zero, Option.some.injEq] at ho); subst ho; (try dsimp only at hSw); go_simp; (first | done | with_reducible rfl))
              (try simp only [Act.put, List.setIfInBounds_toArray, List.set_cons_zero, List.set_cons_succ])
              refine hand_take 8 (some 96) ?_ (by kernel_rfl) (by kernel_rfl) (by kernel_rfl) (by kernel_rfl) (by kernel_rfl) (fun _ _ _ h => h) ?_ (by assumption) ?_
              rotate_left
              · (intro o ho w hSw; (simp only [List.getElem?_toArray, List.getElem?_cons_succ, List.getElem?_cons_zero, Option.some.injEq] at ho); subst ho; (try dsimp only at hSw); go_simp; (first | done | with_reducible rfl))
              (try simp only [Act.put, List.setIfInBounds_toArray, List.set_cons_zero, List.set_cons_succ])
              refine hand_ready 4 (by kernel_rfl) (by kernel_rfl) (fun o ho K hK => ?_)
              (simp only [List.getElem?_toArray, List.getElem?_cons_succ, List.getElem?_cons_zero, Option.some.injEq] at ho)
              subst ho
              go_simp
              ((go_at_call 14; (with_reducible refine (HDR (Below.refl _ _).drew).out.mono ?_); rintro e w9 ⟨rfl, hb9'⟩); have hb9 : Below (PcW w5 Zm m).heap.size (PcW w5 Zm m) w9 := below_of_drew1 hb9')
              (try go_wp2_with fail)
              refine hK.out _ _ ?_ (fun hHeld => ?_)
              · ((try dsimp only); (first | exact hs0 | exact HS.out hb9))
              clear hK K
              (try simp only [Act.put, List.setIfInBounds_toArray, List.set_cons_zero, List.set_cons_succ])
              refine hand_take 9 (some 97) ?_ (by kernel_rfl) (by kernel_rfl) (by kernel_rfl) (by kernel_rfl) (by kernel_rfl) (fun _ _ _ h => h) ?_ (by assumption) ?_
              rotate_left
              · (intro o ho w hSw; (simp only [List.getElem?_toArray, List.getElem?_cons_succ, List.getElem?_cons_zero, Option.some.injEq] at ho); subst ho; (try dsimp only at hSw); go_simp; (first | done | with_reducible rfl))
              (try simp only [Act.put, List.setIfInBounds_toArray, List.set_cons_zero, List.set_cons_succ])
              refine hand_skip 10 (some 98) (by kernel_rfl) (by kernel_rfl) (by kernel_rfl) (by kernel_rfl) (by kernel_rfl) (fun _ _ _ h => h) (by assumption) ?_
              (try simp only [Act.put, List.setIfInBounds_toArray, List.set_cons_zero, List.set_cons_succ])
              refine hand_skip 11 (some 99) (by kernel_rfl) (by kernel_rfl) (by kernel_rfl) (by kernel_rfl) (by kernel_rfl) (fun _ _ _ h => h) (by assumption) ?_
              (try simp only [Act.put, List.setIfInBounds_toArray, List.set_cons_zero, List.set_cons_succ])
              refine hand_skip 12 (some 100) (by kernel_rfl) (by kernel_rfl) (by kernel_rfl) (by kernel_rfl) (by kernel_rfl) (fun _ _ _ h => h) (by assumption) ?_
              (try simp only [Act.put, List.setIfInBounds_toArray, List.set_cons_zero, List.set_cons_succ])
              refine hand_skip 13 (some 101) (by kernel_rfl) (by kernel_rfl) (by kernel_rfl) (by kernel_rfl) (by kernel_rfl) (fun _ _ _ h => h) (by assumption) ?_
              (try simp only [Act.put, List.setIfInBounds_toArray, List.set_cons_zero, List.set_cons_succ])
              refine hand_take 14 (some 102) ?_ (by kernel_rfl) (by kernel_rfl) (by kernel_rfl) (by kernel_rfl) (by kernel_rfl) (fun _ _ _ h => h) ?_ (by assumption) ?_
              rotate_left
              · (intro o ho w hSw; (simp only [List.getElem?_toArray, List.getElem?_cons_succ, List.getElem?_cons_zero, Option.some.injEq] at ho); subst ho; (try dsimp only at hSw); go_simp; (first | done | with_reducible rfl))
              (try simp only [Act.put, List.setIfInBounds_toArray, List.set_cons_zero, List.set_cons_succ])
              refine hand_take 15 (some 103) ?_ (by kernel_rfl) (by kernel_rfl) (by kernel_rfl) (by kernel_rfl) (by kernel_rfl) (fun _ _ _ h => h) ?_ (by assumption) ?_
              rotate_left
              · (intro o ho w hSw; (simp only [List.getElem?_toArray, List.getElem?_cons_succ, List.getElem?_cons_zero, Option.some.injEq] at ho); subst ho; (try dsimp only at hSw); go_simp; (first | done | with_reducible rfl))
              (try simp only [Act.put, List.setIfInBounds_toArray, List.set_cons_zero, List.set_cons_succ])
              refine hand_take 16 (some 104) ?_ (by kernel_rfl) (by kernel_rfl) (by kernel_rfl) (by kernel_rfl) (by kernel_rfl) (fun _ _ _ h => h) ?_ (by assumption) ?_
              rotate_left
              · (intro o ho w hSw; (simp only [List.getElem?_toArray, List.getElem?_cons_succ, List.getElem?_cons_zero, Option.some.injEq] at ho); subst ho; (try dsimp only at hSw); go_simp; (first | done | with_reducible rfl))
              (try simp only [Act.put, List.setIfInBounds_toArray, List.set_cons_zero, List.set_cons_succ])
              refine hand_take 17 (some 4) ?_ (by kernel_rfl) (by kernel_rfl) (by kernel_rfl) (by kernel_rfl) (by kernel_rfl) (fun _ _ _ h => h) ?_ (by assumption) ?_
              rotate_left
              · (intro o ho w hSw; (simp only [List.getElem?_toArray, List.getElem?_cons_succ, List.getElem?_cons_zero, Option.some.injEq] at ho); subst ho; (try dsimp only at hSw); go_simp; (first | done | with_reducible rfl))
              (try simp only [Act.put, List.setIfInBounds_toArray, List.set_cons_zero, List.set_cons_succ])
              refine wpAnyH_done (by kernel_rfl) ?_ _
              have HB9 := kept (hb9.mono hw.size)
              clear hb9 hb9' hmi
              go_wp2
              go_ret
              exact ⟨ret_bool (by rw [HPR.out]; simp <;> omega), hw.trans HB9.out⟩
          · have hu' : decide ((u : Int) ≤ 237) = false := by simp; omega
            go_wp2_with (first | (go_at_call 22; (with_reducible refine ((HUS hv).out).mono ?_); rintro e w4 ⟨rfl, hb4⟩; have hb4 := below_to hb4 hv; have y0 : w4.cell? ⟨w2.heap.size, 0, none⟩ = some (.int .i64 1) := (HB7.out hb4).cell 0; have y1 : w4.cell? ⟨w2.heap.size, 1, none⟩ = some (.int .u64 0) := (HB7.out hb4).cell 1; have y2 : w4.cell? ⟨w2.heap.size, 2, none⟩ = some (.int .i64 0) := (HB7.out hb4).cell 2; have y3 : w4.cell? ⟨w2.heap.size, 3, none⟩ = some (.slice A2 j c2) := (HB7.out hb4).cell 3; have y4 : w4.cell? ⟨w2.heap.size, 4, none⟩ = some (.slice none 0 0) := (HB7.out hb4).cell 4; have y5 : w4.cell? ⟨w2.heap.size, 5, none⟩ = some (.slice none 0 0) := (HB7.out hb4).cell 5; have y6 : w4.cell? ⟨w2.heap.size, 6, none⟩ = some (.slice none 0 0) := (HB7.out hb4).cell 6) | (go_at_call 14; (with_reducible refine ((HRI hb4).out).mono ?_); rintro e w5 ⟨rfl, hb5⟩; have hb5 := below_to hb5 hb4; clear y0 y1 y2 y3 y4 y5 y6) | (go_at_call 23; (with_reducible refine (open_short _ _ _ _ (by omega)).mono ?_); rintro e w6 ⟨rfl, rfl⟩))
            have hw : Below w.heap.size w (PcW w5 Zm m) := below_to (below_to (pc_below w5 Zm m) hb5) HBEL.out
            have HS : Hid (∀ {X : World}, Below (PcW w5 Zm m).heap.size (PcW w5 Zm m) X → Sev X (w5.heap.size + 1) 3 0 0 none 0 0 none 0 0 (some ⟨w5.heap.size, 0, none⟩) m m none 0 0) := kept (fun h => pc_sev w5 Zm m h)
            have hs0 := HS.out (Below.refl _ (PcW w5 Zm m))
            clear z0 z1 z2 z3 z4 z5 z6 hmk HUS HRI
            by_cases hm0 : 1 ≤ m
            · have hmi : (1 : Int) ≤ (m : Int) := by omega
              have HPR : Hid (db = decide (m ≤ 237)) := kept (by rw [hpr]; simp [hm0])
              clear hpr
              refine wp_region_held_drew (S := (fun W' => Sev W' (w5.heap.size + 1) 3 0 0 none 0 0 none 0 0 (some ⟨w5.heap.size, 0, none⟩) m m none 0 0)) (by kernel_rfl) ?_ (fun hHeld => ?_)
              · ((try dsimp only); (first | exact hs0 | exact HS.out hb9))
              refine hand_take 0 (some 88) ?_ (by kernel_rfl) (by kernel_rfl) (by kernel_rfl) (by kernel_rfl) (by kernel_rfl) (fun _ _ _ h => h) ?_ (by assumption) ?_
              rotate_left
              · (intro o ho w hSw; (simp only [List.getElem?_toArray, List.getElem?_cons_succ, List.getElem?_cons_zero, Option.some.injEq] at ho); subst ho; (try dsimp only at hSw); go_simp; (first | done | with_reducible rfl))
              (try simp only [Act.put, List.setIfInBounds_toArray, List.set_cons_zero, List.set_cons_succ])
              refine hand_take 1 (some 89) ?_ (by kernel_rfl) (by kernel_rfl) (by kernel_rfl) (by kernel_rfl) (by kernel_rfl) (fun _ _ _ h => h) ?_ (by assumption) ?_
              rotate_left
              · (intro o ho w hSw; (simp only [List.getElem?_toArray, List.getElem?_cons_succ, List.getElem?_cons_zero, Option.some.injEq] at ho); subst ho; (try dsimp only at hSw); go_simp; (first | done | with_reducible rfl))
              (try simp only [Act.put, List.setIfInBounds_toArray, List.set_cons_zero, List.set_cons_succ])
              refine hand_take 2 (some 90) ?_ (by kernel_rfl) (by kernel_rfl) (by kernel_rfl) (by kernel_rfl) (by kernel_rfl) (fun _ _ _ h => h) ?_ (by assumption) ?_
              rotate_left
              · (intro o ho w hSw; (simp only [List.getElem?_toArray, List.getElem?_cons_succ, List.getElem?_cons_zero, Option.some.injEq] at ho); subst ho; (try dsimp only at hSw); go_simp; (first | done | with_reducible rfl))
              (try simp only [Act.put, List.setIfInBounds_toArray, List.set_cons_zero, List.set_cons_succ])
              refine hand_take 3 (some 91) ?_ (by kernel_rfl) (by kernel_rfl) (by kernel_rfl) (by kernel_rfl) (by kernel_rfl) (fun _ _ _ h => h) ?_ (by assumption) ?_
              rotate_left
              · (intro o ho w hSw; (simp only [List.getElem?_toArray, List.getElem?_cons_succ, List.getElem?_cons_zero, Option.some.injEq] at ho); subst ho; (try dsimp only at hSw); go_simp; (first | done | with_reducible rfl))
              (try simp only [Act.put, List.setIfInBounds_toArray, List.set_cons_zero, List.set_cons_succ])
              refine hand_take 5 (some 93) ?_ (by kernel_rfl) (by kernel_rfl) (by kernel_rfl) (by kernel_rfl) (by kernel_rfl) (fun _ _ _ h => h) ?_ (by assumption) ?_
              rotate_left
              · (intro o ho w hSw; (simp only [List.getElem?_toArray, List.getElem?_cons_succ, List.getElem?_cons_zero, Option.some.injEq] at ho); subst ho; (try dsimp only at hSw); go_simp; (first | done | with_reducible rfl))
              (try simp only [Act.put, List.setIfInBounds_toArray, List.set_cons_zero, List.set_cons_succ])
              refine hand_take 6 (some 94) ?_ (by kernel_rfl) (by kernel_rfl) (by kernel_rfl) (by kernel_rfl) (by kernel_rfl) (fun _ _ _ h => h) ?_ (by assumption) ?_
              rotate_left
              · (intro o ho w hSw; (simp only [List.getElem?_toArray, List.getElem?_cons_succ, List.getElem?_cons_zero, Option.some.injEq] at ho); subst ho; (try dsimp only at hSw); go_simp; (first | done | with_reducible rfl))
              (try simp only [Act.put, List.setIfInBounds_toArray, List.set_cons_zero, List.set_cons_succ])
              refine hand_take 7 (some 95) ?_ (by kernel_rfl) (by kernel_rfl) (by kernel_rfl) (by kernel_rfl) (by kernel_rfl) (fun _ _ _ h => h) ?_ (by assumption) ?_
              rotate_left
              · (intro o ho w hSw; (simp only [List.getElem?_toArray, List.getElem?_cons_succ, List.getElem?_cons_zero, Option.some.injEq] at ho); subst ho; (try dsimp only at hSw); go_simp; (first | done | with_reducible rfl))
              (try simp only [Act.put, List.setIfInBounds_toArray, List.set_cons_zero, List.set_cons_succ])
              refine hand_take 8 (some 96) ?_ (by kernel_rfl) (by kernel_rfl) (by kernel_rfl) (by kernel_rfl) (by kernel_rfl) (fun _ _ _ h => h) ?_ (by assumption) ?_
              rotate_left
              · (intro o ho w hSw; (simp only [List.getElem?_toArray, List.getElem?_cons_succ, List.getElem?_cons_zero, Option.some.injEq] at ho); subst ho; (try dsimp only at hSw); go_simp; (first | done | with_reducible rfl))
              (try simp only [Act.put, List.setIfInBounds_toArray, List.set_cons_zero, List.set_cons_succ])
              refine hand_ready 4 (by kernel_rfl) (by kernel_rfl) (fun o ho K hK => ?_)
              (simp only [List.getElem?_toArray, List.getElem?_cons_succ, List.getElem?_cons_zero, Option.some.injEq] at ho)
              subst ho
              go_simp
              ((go_at_call 14; (with_reducible refine (HDR (Below.refl _ _).drew).out.mono ?_); rintro e w9 ⟨rfl, hb9'⟩); have hb9 : Below (PcW w5 Zm m).heap.size (PcW w5 Zm m) w9 := below_of_drew1 hb9')
              (try go_wp2_with fail)
              refine hK.out _ _ ?_ (fun hHeld => ?_)
              · ((try dsimp only); (first | exact hs0 | exact HS.out hb9))
              clear hK K
              (try simp only [Act.put, List.setIfInBounds_toArray, List.set_cons_zero, List.set_cons_succ])
              refine hand_take 9 (some 97) ?_ (by kernel_rfl) (by kernel_rfl) (by kernel_rfl) (by kernel_rfl) (by kernel_rfl) (fun _ _ _ h => h) ?_ (by assumption) ?_
              rotate_left
              · (intro o ho w hSw; (simp only [List.getElem?_toArray, List.getElem?_cons_succ, List.getElem?_cons_zero, Option.some.injEq] at ho); subst ho; (try dsimp only at hSw); go_simp; (first | done | with_reducible rfl))
              (try simp only [Act.put, List.setIfInBounds_toArray, List.set_cons_zero, List.set_cons_succ])
              refine hand_take 10 (some 98) ?_ (by kernel_rfl) (by kernel_rfl) (by kernel_rfl) (by kernel_rfl) (by kernel_rfl) (fun _ _ _ h => h) ?_ (by assumption) ?_
              rotate_left
              · (intro o ho w hSw; (simp only [List.getElem?_toArray, List.getElem?_cons_succ, List.getElem?_cons_zero, Option.some.injEq] at ho); subst ho; (try dsimp only at hSw); go_simp; (first | done | with_reducible rfl))
              (try simp only [Act.put, List.setIfInBounds_toArray, List.set_cons_zero, List.set_cons_succ])
              refine hand_take 11 (some 99) ?_ (by kernel_rfl) (by kernel_rfl) (by kernel_rfl) (by kernel_rfl) (by kernel_rfl) (fun _ _ _ h => h) ?_ (by assumption) ?_
              rotate_left
              · (intro o ho w hSw; (simp only [List.getElem?_toArray, List.getElem?_cons_succ, List.getElem?_cons_zero, Option.some.injEq] at ho); subst ho; (try dsimp only at hSw); go_simp; (first | done | with_reducible rfl))
              (try simp only [Act.put, List.setIfInBounds_toArray, List.set_cons_zero, List.set_cons_succ])
              refine hand_take 12 (some 100) ?_ (by kernel_rfl) (by kernel_rfl) (by kernel_rfl) (by kernel_rfl) (by kernel_rfl) (fun _ _ _ h => h) ?_ (by assumption) ?_
              rotate_left
              · (intro o ho w hSw; (simp only [List.getElem?_toArray, List.getElem?_cons_succ, List.getElem?_cons_zero, Option.some.injEq] at ho); subst ho; (try dsimp only at hSw); go_simp; (first | done | with_reducible rfl))
              (try simp only [Act.put, List.setIfInBounds_toArray, List.set_cons_zero, List.set_cons_succ])
              refine hand_take 13 (some 101) ?_ (by kernel_rfl) (by kernel_rfl) (by kernel_rfl) (by kernel_rfl) (by kernel_rfl) (fun _ _ _ h => h) ?_ (by assumption) ?_
              rotate_left
              · (intro o ho w hSw; (simp only [List.getElem?_toArray, List.getElem?_cons_succ, List.getElem?_cons_zero, Option.some.injEq] at ho); subst ho; (try dsimp only at hSw); go_simp; (first | done | with_reducible rfl))
              (try simp only [Act.put, List.setIfInBounds_toArray, List.set_cons_zero, List.set_cons_succ])
              refine hand_take 14 (some 102) ?_ (by kernel_rfl) (by kernel_rfl) (by kernel_rfl) (by kernel_rfl) (by kernel_rfl) (fun _ _ _ h => h) ?_ (by assumption) ?_
              rotate_left
              · (intro o ho w hSw; (simp only [List.getElem?_toArray, List.getElem?_cons_succ, List.getElem?_cons_zero, Option.some.injEq] at ho); subst ho; (try dsimp only at hSw); go_simp; (first | done | with_reducible rfl))
              (try simp only [Act.put, List.setIfInBounds_toArray, List.set_cons_zero, List.set_cons_succ])
              refine hand_take 15 (some 103) ?_ (by kernel_rfl) (by kernel_rfl) (by kernel_rfl) (by kernel_rfl) (by kernel_rfl) (fun _ _ _ h => h) ?_ (by assumption) ?_
              rotate_left
              · (intro o ho w hSw; (simp only [List.getElem?_toArray, List.getElem?_cons_succ, List.getElem?_cons_zero, Option.some.injEq] at ho); subst ho; (try dsimp only at hSw); go_simp; (first | done | with_reducible rfl))
              (try simp only [Act.put, List.setIfInBounds_toArray, List.set_cons_zero, List.set_cons_succ])
              refine hand_take 16 (some 104) ?_ (by kernel_rfl) (by kernel_rfl) (by kernel_rfl) (by kernel_rfl) (by kernel_rfl) (fun _ _ _ h => h) ?_ (by assumption) ?_
              rotate_left
              · (intro o ho w hSw; (simp only [List.getElem?_toArray, List.getElem?_cons_succ, List.getElem?_cons_zero, Option.some.injEq] at ho); subst ho; (try dsimp only at hSw); go_simp; (first | done | with_reducible rfl))
              (try simp only [Act.put, List.setIfInBounds_toArray, List.set_cons_zero, List.set_cons_succ])
              refine hand_take 17 (some 4) ?_ (by kernel_rfl) (by kernel_rfl) (by kernel_rfl) (by kernel_rfl) (by kernel_rfl) (fun _ _ _ h => h) ?_ (by assumption) ?_
              rotate_left
              · (intro o ho w hSw; (simp only [List.getElem?_toArray, List.getElem?_cons_succ, List.getElem?_cons_zero, Option.some.injEq] at ho); subst ho; (try dsimp only at hSw); go_simp; (first | done | with_reducible rfl))
              (try simp only [Act.put, List.setIfInBounds_toArray, List.set_cons_zero, List.set_cons_succ])
              refine wpAnyH_done (by kernel_rfl) ?_ _
              have HB9 := kept (hb9.mono hw.size)
              clear hb9 hb9' hmi
              go_wp2
              go_ret
              exact ⟨ret_bool (by rw [HPR.out]; simp <;> omega), hw.trans HB9.out⟩
            · have hmi : decide ((1 : Int) ≤ (m : Int)) = false := by simp; omega
              have HPR : Hid (db = false) := kept (by rw [hpr]; simp [hm0])
              clear hpr
              refine wp_region_held_drew (S := (fun W' => Sev W' (w5.heap.size + 1) 3 0 0 none 0 0 none 0 0 (some ⟨w5.heap.size, 0, none⟩) m m none 0 0)) (by kernel_rfl) ?_ (fun hHeld => ?_)
              · ((try dsimp only); (first | exact hs0 | exact HS.out hb9))
              refine hand_take 0 (some 88) ?_ (by kernel_rfl) (by kernel_rfl) (by kernel_rfl) (by kernel_rfl) (by kernel_rfl) (fun _ _ _ h => h) ?_ (by assumption) ?_
              rotate_left
              · (intro o ho w hSw; (simp only [List.getElem?_toArray, List.getElem?_cons_succ, List.getElem?_cons_zero, Option.some.injEq] at ho); subst ho; (try dsimp only at hSw); go_simp; (first | done | with_reducible rfl))
              (try simp only [Act.put, List.setIfInBounds_toArray, List.set_cons_zero, List.set_cons_succ])
              refine hand_take 1 (some 89) ?_ (by kernel_rfl) (by kernel_rfl) (by kernel_rfl) (by kernel_rfl) (by kernel_rfl) (fun _ _ _ h => h) ?_ (by assumption) ?_
              rotate_left
              · (intro o ho w hSw; (simp only [List.getElem?_toArray, List.getElem?_cons_succ, List.getElem?_cons_zero, Option.some.injEq] at ho); subst ho; (try dsimp only at hSw); go_simp; (first | done | with_reducible rfl))
              (try simp only [Act.put, List.setIfInBounds_toArray, List.set_cons_zero, List.set_cons_succ])
              refine hand_take 2 (some 90) ?_ (by kernel_rfl) (by kernel_rfl) (by kernel_rfl) (by kernel_rfl) (by kernel_rfl) (fun _ _ _ h => h) ?_ (by assumption) ?_
              rotate_left
              · (intro o ho w hSw; (simp only [List.getElem?_toArray, List.getElem?_cons_succ, List.getElem?_cons_zero, Option.some.injEq] at ho); subst ho; (try dsimp only at hSw); go_simp; (first | done | with_reducible rfl))
              (try simp only [Act.put, List.setIfInBounds_toArray, List.set_cons_zero, List.set_cons_succ])
              refine hand_take 3 (some 91) ?_ (by kernel_rfl) (by kernel_rfl) (by kernel_rfl) (by kernel_rfl) (by kernel_rfl) (fun _ _ _ h => h) ?_ (by assumption) ?_
              rotate_left
              · (intro o ho w hSw; (simp only [List.getElem?_toArray, List.getElem?_cons_succ, List.getElem?_cons_zero, Option.some.injEq] at ho); subst ho; (try dsimp only at hSw); go_simp; (first | done | with_reducible rfl))
              (try simp only [Act.put, List.setIfInBounds_toArray, List.set_cons_zero, List.set_cons_succ])
              refine hand_take 5 (some 93) ?_ (by kernel_rfl) (by kernel_rfl) (by kernel_rfl) (by kernel_rfl) (by kernel_rfl) (fun _ _ _ h => h) ?_ (by assumption) ?_
              rotate_left
              · (intro o ho w hSw; (simp only [List.getElem?_toArray, List.getElem?_cons_succ, List.getElem?_cons_zero, Option.some.injEq] at ho); subst ho; (try dsimp only at hSw); go_simp; (first | done | with_reducible rfl))
              (try simp only [Act.put, List.setIfInBounds_toArray, List.set_cons_zero, List.set_cons_succ])
              refine hand_take 6 (some 94) ?_ (by kernel_rfl) (by kernel_rfl) (by kernel_rfl) (by kernel_rfl) (by kernel_rfl) (fun _ _ _ h => h) ?_ (by assumption) ?_
              rotate_left
              · (intro o ho w hSw; (simp only [List.getElem?_toArray, List.getElem?_cons_succ, List.getElem?_cons_zero, Option.some.injEq] at ho); subst ho; (try dsimp only at hSw); go_simp; (first | done | with_reducible rfl))
              (try simp only [Act.put, List.setIfInBounds_toArray, List.set_cons_zero, List.set_cons_succ])
              refine hand_take 7 (some 95) ?_ (by kernel_rfl) (by kernel_rfl) (by kernel_rfl) (by kernel_rfl) (by kernel_rfl) (fun _ _ _ h => h) ?_ (by assumption) ?_
              rotate_left
              · (intro o ho w hSw; (simp only [List.getElem?_toArray, List.getElem?_cons_succ, List.getElem?_cons_zero, Option.some.injEq] at ho); subst ho; (try dsimp only at hSw); go_simp; (first | done | with_reducible rfl))
              (try simp only [Act.put, List.setIfInBounds_toArray, List.set_cons_zero, List.set_cons_succ])
              refine hand_take 8 (some 96) ?_ (by kernel_rfl) (by kernel_rfl) (by kernel_rfl) (by kernel_rfl) (by kernel_rfl) (fun _ _ _ h => h) ?_ (by assumption) ?_
              rotate_left
              · (intro o ho w hSw; (simp only [List.getElem?_toArray, List.getElem?_cons_succ, List.getElem?_cons_zero, Option.some.injEq] at ho); subst ho; (try dsimp only at hSw); go_simp; (first | done | with_reducible rfl))
              (try simp only [Act.put, List.setIfInBounds_toArray, List.set_cons_zero, List.set_cons_succ])
              refine hand_ready 4 (by kernel_rfl) (by kernel_rfl) (fun o ho K hK => ?_)
              (simp only [List.getElem?_toArray, List.getElem?_cons_succ, List.getElem?_cons_zero, Option.some.injEq] at ho)
              subst ho
              go_simp
              ((go_at_call 14; (with_reducible refine (HDR (Below.refl _ _).drew).out.mono ?_); rintro e w9 ⟨rfl, hb9'⟩); have hb9 : Below (PcW w5 Zm m).heap.size (PcW w5 Zm m) w9 := below_of_drew1 hb9')
              (try go_wp2_with fail)
              refine hK.out _ _ ?_ (fun hHeld => ?_)
              · ((try dsimp only); (first | exact hs0 | exact HS.out hb9))
              clear hK K
              (try simp only [Act.put, List.setIfInBounds_toArray, List.set_cons_zero, List.set_cons_succ])
              refine hand_take 9 (some 97) ?_ (by kernel_rfl) (by kernel_rfl) (by kernel_rfl) (by kernel_rfl) (by kernel_rfl) (fun _ _ _ h => h) ?_ (by assumption) ?_
              rotate_left
              · (intro o ho w hSw; (simp only [List.getElem?_toArray, List.getElem?_cons_succ, List.getElem?_cons_zero, Option.some.injEq] at ho); subst ho; (try dsimp only at hSw); go_simp; (first | done | with_reducible rfl))
              (try simp only [Act.put, List.setIfInBounds_toArray, List.set_cons_zero, List.set_cons_succ])
              refine hand_skip 10 (some 98) (by kernel_rfl) (by kernel_rfl) (by kernel_rfl) (by kernel_rfl) (by kernel_rfl) (fun _ _ _ h => h) (by assumption) ?_
              (try simp only [Act.put, List.setIfInBounds_toArray, List.set_cons_zero, List.set_cons_succ])
              refine hand_skip 11 (some 99) (by kernel_rfl) (by kernel_rfl) (by kernel_rfl) (by kernel_rfl) (by kernel_rfl) (fun _ _ _ h => h) (by assumption) ?_
              (try simp only [Act.put, List.setIfInBounds_toArray, List.set_cons_zero, List.set_cons_succ])
              refine hand_skip 12 (some 100) (by kernel_rfl) (by kernel_rfl) (by kernel_rfl) (by kernel_rfl) (by kernel_rfl) (fun _ _ _ h => h) (by assumption) ?_
              (try simp only [Act.put, List.setIfInBounds_toArray, List.set_cons_zero, List.set_cons_succ])
              refine hand_skip 13 (some 101) (by kernel_rfl) (by kernel_rfl) (by kernel_rfl) (by kernel_rfl) (by kernel_rfl) (fun _ _ _ h => h) (by assumption) ?_
              (try simp only [Act.put, List.setIfInBounds_toArray, List.set_cons_zero, List.set_cons_succ])
              refine hand_take 14 (some 102) ?_ (by kernel_rfl) (by kernel_rfl) (by kernel_rfl) (by kernel_rfl) (by kernel_rfl) (fun _ _ _ h => h) ?_ (by assumption) ?_
              rotate_left
              · (intro o ho w hSw; (simp only [List.getElem?_toArray, List.getElem?_cons_succ, List.getElem?_cons_zero, Option.some.injEq] at ho); subst ho; (try dsimp only at hSw); go_simp; (first | done | with_reducible rfl))
              (try simp only [Act.put, List.setIfInBounds_toArray, List.set_cons_zero, List.set_cons_succ])
              refine hand_take 15 (some 103) ?_ (by kernel_rfl) (by kernel_rfl) (by kernel_rfl) (by kernel_rfl) (by kernel_rfl) (fun _ _ _ h => h) ?_ (by assumption) ?_
              rotate_left
              · (intro o ho w hSw; (simp only [List.getElem?_toArray, List.getElem?_cons_succ, List.getElem?_cons_zero, Option.some.injEq] at ho); subst ho; (try dsimp only at hSw); go_simp; (first | done | with_reducible rfl))
              (try simp only [Act.put, List.setIfInBounds_toArray, List.set_cons_zero, List.set_cons_succ])
              refine hand_take 16 (some 104) ?_ (by kernel_rfl) (by kernel_rfl) (by kernel_rfl) (by kernel_rfl) (by kernel_rfl) (fun _ _ _ h => h) ?_ (by assumption) ?_
              rotate_left
              · (intro o ho w hSw; (simp only [List.getElem?_toArray, List.getElem?_cons_succ, List.getElem?_cons_zero, Option.some.injEq] at ho); subst ho; (try dsimp only at hSw); go_simp; (first | done | with_reducible rfl))
              (try simp only [Act.put, List.setIfInBounds_toArray, List.set_cons_zero, List.set_cons_succ])
              refine hand_take 17 (some 4) ?_ (by kernel_rfl) (by kernel_rfl) (by kernel_rfl) (by kernel_rfl) (by kernel_rfl) (fun _ _ _ h => h) ?_ (by assumption) ?_
              rotate_left
              · (intro o ho w hSw; (simp only [List.getElem?_toArray, List.getElem?_cons_succ, List.getElem?_cons_zero, Option.some.injEq] at ho); subst ho; (try dsimp only at hSw); go_simp; (first | done | with_reducible rfl))
              (try simp only [Act.put, List.setIfInBounds_toArray, List.set_cons_zero, List.set_cons_succ])
              refine wpAnyH_done (by kernel_rfl) ?_ _
              have HB9 := kept (hb9.mono hw.size)
              clear hb9 hb9' hmi
              go_wp2
              go_ret
              exact ⟨ret_bool (by rw [HPR.out]; simp <;> omega), hw.trans HB9.out⟩
theorem walk (w : World) (hf : Fours w) (A : Option Addr) (n c : Nat) (xs : List UInt8) (hr : Rd w A n xs) (hc : n ≤ c) (hl : n ≤ 140737488351232) (a1 : Int) (w1 : (Lit.int .i64 a1).wf = true) :
    Calls Tryd.prog 7 #[.slice A n c, .int .i64 a1] w fun e w' => e = .returned (.bool true) ∧ Below w.heap.size w w' := by
  by_cases h : 100 < n
  · exact walk_lives w hf A n c a1 hl h
  · exact walk_try w hf A n c xs hr (by omega) a1 w1
end Go.Proofs.YtklkgbaejehfpaaDoor.pageUsed
