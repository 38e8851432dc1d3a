/-
  Texts laid together: Ds Dr Df.
-/
import Derived.Test.YtdjcahhofonclaaGreatDoorBDc
import Derived.Deep.LoopGhost
import Derived.Outline
import Derived.Test.YtdjcahhofonclaaGreatDoorBBase
section
/-
  What Sync answers and leaves.
-/
namespace Go.Proofs.YtdjcahhofonclaaGreatDoor
open Go.ChangeShapes Go.WideShapes Go.ChangeAt Go.RowKit
set_option linter.unusedVariables false

section
variable {ops : Array Oper} {rest : List Oper} {op : Oper} {a : Act} {w : World} {Q : Exit → Act → World → Prop}
theorem wpList_put_page (hgd : op.guard = none) (x y : Operand) (ho : op.op = .store 117 x y) (g cap : Nat) (ps : List (List UInt8)) (i : Nat) (xs : List UInt8) (hx : a.eval x = .pointer (some ⟨g, i * 256, none⟩)) (hy : a.eval y = pageV xs)
    (hp : PgAt w g cap ps) (hi : i < ps.length) (hl : xs.length = 256) (h : ∀ w', PgAt w' g cap (ps.set i xs) → w.grownBy w' (some g) → w'.heap.size = w.heap.size → wpList Tryz.prog ops Q rest (a.put op.dst undef) w') :
    wpList Tryz.prog ops Q (op :: rest) a w := by
  have hrun := run_store_page (hp.there hi) hl
  obtain ⟨h1, h2⟩ := grown_setCells g (cellsOf xs) (i * 256) w
  refine wpList_plain hgd fun _ hK => ?_
  unfold Oper.wp execOp
  simp only [ho, hx, hy, hrun, Sem.run_bind, Sem.run_pure, Result.andThen_ok]
  exact hK _ _ (h _ (hp.put_all hi hl) h1 h2)
/-- The next page of the cache, whichever the tape says. -/
theorem wpList_next_page (hgd : op.guard = none) (x : Operand) (ho : op.op = .next x false) {m it k n : Nat} {f : Int → Option (List UInt8)} {lf : Int → Bool} {cnt : Nat} (hf : ∀ y xs, f y = some xs → 0 ≤ y ∧ y < (n : Int) ∧ xs.length = 256)
    (h : Rg w m it k (fun y => (f y).map pageV) lf cnt) (hx : a.eval x = .pointer (some ⟨it, 0, none⟩))
    (hDone : (∀ x, lf x = false) → wpList Tryz.prog ops Q rest (a.put op.dst (.tuple #[.bool false])) w)
    (hMore : ∀ (p : Nat) (xs : List UInt8) (w' : World) (cnt' : Nat), Hid (p < n ∧ xs.length = 256 ∧ f (p : Int) = some xs ∧ lf (p : Int) = true ∧ Rg w' m it k (fun y => (f y).map pageV) (fun y => lf y && !decide (y = (p : Int))) cnt' ∧ cnt' < cnt ∧ w.grownBy w' (some it) ∧ w'.heap.size = w.heap.size) →
      (Instr.entry (.pointer (some ⟨it, 0, none⟩))).run Tryz.prog w' = .ok (.tuple #[.int .i64 (p : Int), pageV xs]) w' → wpList Tryz.prog ops Q rest (a.put op.dst (.tuple #[.bool true, .int .i64 (p : Int), pageV xs])) w') : wpList Tryz.prog ops Q (op :: rest) a w := by
  refine wpList_next_mv hgd x ho h hx hDone ?_
  intro p v w' cnt' hp hv hl hr hlt hg hs hen
  simp only [Option.map_eq_some_iff] at hv
  obtain ⟨xs, hxs, rfl⟩ := hv
  obtain ⟨h0, h1, h2⟩ := hf p xs hxs
  obtain ⟨q, rfl⟩ := Int.eq_ofNat_of_zero_le h0
  exact hMore q xs w' cnt' (kept ⟨by omega, h2, hxs, hl, hr, hlt, hg, hs⟩) hen
end

/-! ### what is laid on the disk, as far as a loop has come -/
/-- The pages: those of the cache that are still to come as they were, the others by 'new'. -/
def laid (S : St) (new : Nat → List UInt8) (lf : Int → Bool) : List (List UInt8) := (List.range S.pages.length).map fun (i : Nat) => if lf (i : Int) = false ∧ (S.cache (i : Int)).isSome = true then new i else S.pages.getD i []
theorem laid_length (S : St) (new : Nat → List UInt8) (lf : Int → Bool) : (laid S new lf).length = S.pages.length := by simp [laid]
theorem laid_start (S : St) (new : Nat → List UInt8) : laid S new (fun y => ((S.cache y).map pageV).isSome) = S.pages := by
  apply List.ext_getElem (laid_length _ _ _)
  intro i h1 h2
  simp only [laid, List.getElem_map, List.getElem_range]
  rw [if_neg (by simp)]
  simp [h2]
theorem laid_at (S : St) (new : Nat → List UInt8) (lf : Int → Bool) {i : Nat} (hi : i < (laid S new lf).length) (hl : lf (i : Int) = true) : (laid S new lf)[i] = S.pages.getD i [] := by
  simp only [laid, List.getElem_map, List.getElem_range]
  rw [if_neg (by simp [hl])]
theorem laid_step (S : St) (new : Nat → List UInt8) (lf : Int → Bool) {p : Nat} {xs : List UInt8} (hc : (S.cache (p : Int)).isSome = true) (hn : new p = xs) :
    (laid S new lf).set p xs = laid S new (fun y => lf y && !decide (y = (p : Int))) := by
  apply List.ext_getElem (by simp [laid])
  intro i h1 h2
  rw [List.getElem_set]
  simp only [laid, List.getElem_map, List.getElem_range]
  by_cases e : p = i
  · subst e; simp [hc, hn]
  · have : ((i : Int) ≠ (p : Int)) := by omega
    rw [if_neg e]
    simp [this]
def St.laidAll (S : St) (new : Nat → List UInt8) : List (List UInt8) := laid S new (fun _ => false)
theorem laid_end (S : St) (new : Nat → List UInt8) (lf : Int → Bool) (h : ∀ x, lf x = false) : laid S new lf = S.laidAll new := by
  have : lf = fun _ => false := funext h
  rw [this]; rfl

/-- A round's head: the loop over the cache, in block it. -/
def Heads (w : World) (d : Dk) (S : St) (k it : Nat) (new : Nat → List UInt8) (wr : World) (cnt : Nat) : Prop :=
  ∃ lf, Rg wr d.m it k (fun y => (S.cache y).map pageV) lf cnt ∧ Blk wr d.r 112 [.slice (some ⟨d.g, 0, none⟩) S.pages.length d.cap, .map (some d.m), .int .i64 S.fuse, .int .i64 (S.done : Int)] ∧ PgAt wr d.g d.cap (laid S new lf) ∧ Turned w wr d.own ∧ w.heap.size ≤ it
def HeadR (w : World) (d : Dk) (S : St) (k it : Nat) (new : Nat → List UInt8) (wr : World) : Prop := ∃ cnt, Heads w d S k it new wr cnt
theorem HeadR.start {w w0 : World} {d : Dk} {S : St} {k cnt : Nat} (new : Nat → List UInt8) (h : Dsk w d S) (hr : Rg w0 d.m w.heap.size k (fun y => (S.cache y).map pageV) (fun x => ((S.cache x).map pageV).isSome) cnt) (hg : w.grownBy w0 none) :
    HeadR w d S k w.heap.size new w0 := by
  refine ⟨cnt, _, hr, (hg.block d.r (h.lt _ (.inl rfl)) (by simp)).trans h.2.1, ?_, Turned.of_grown hg (fun _ e => by cases e), Nat.le_refl _⟩
  rw [laid_start]
  exact h.2.2.1.keep (hg.block d.g (h.lt _ (.inr (.inl rfl))) (by simp))

theorem sync_no (d : Dk) (S : St) (w : World) (h : Dsk w d S) (hf : S.fuse = 0) :
    Calls Tryz.prog 32 #[.pointer (some ⟨d.r, 0, none⟩)] w fun e w' => e = .returned (.int .i64 10) ∧ w = w' := by
  have H := kept (alive_dead d S w h hf)
  clear h hf
  go_enter Tryz.func32, Tryz.ntmps32
  go_wp2_with (first | (go_at_call 50; (with_reducible refine (H.out).mono ?_); rintro e w' ⟨rfl, rfl⟩))
  go_ret
  exact ⟨rfl, rfl⟩
def St.sync (S : St) : St := ({ S with pages := S.laidAll (fun i => S.page (i : Int)), cache := fun _ => none } : St).count
theorem Turned.own_step {w wr w' : World} {d : Dk} {b : Nat} (t : Turned w wr d.own) (g : wr.grownBy w' (some b)) (hb : w.heap.size ≤ b ∨ d.own b) : Turned w w' d.own :=
  t.grown g fun j hj e => by
    cases e
    rcases hb with hb | hb
    · omega
    · exact hb
theorem heads_mid {w wr w1 w3 : World} {d : Dk} {cap it : Nat} {t : TypeId} {cs : List Value} {ps : List (List UInt8)} (hlt : ∀ i, d.own i → i < w.heap.size) (hb : Blk wr d.r t cs) (hp : PgAt wr d.g cap ps) (ht : Turned w wr d.own) (hi : w.heap.size ≤ it)
    (hg1 : wr.grownBy w1 (some it)) (b13 : Below w1.heap.size w1 w3) : Blk w3 d.r t cs ∧ PgAt w3 d.g cap ps ∧ Turned w w3 d.own := by
  have l1 := hlt d.r (.inl rfl)
  have l2 := hlt d.g (.inr (.inl rfl))
  have s1 := Nat.le_trans ht.size hg1.size
  refine ⟨(b13.block d.r (by omega)).trans ((hg1.block d.r hb.lt (fun e => by have := Option.some.inj e; omega)).trans hb), hp.keep ((b13.block d.g (by omega)).trans (hg1.block d.g hp.lt (fun e => by have := Option.some.inj e; omega))), ?_⟩
  exact (ht.own_step hg1 (.inl hi)).then_below b13 fun i hi hb => by omega
theorem heads_end {w w3 w4 : World} {d : Dk} {S : St} {k it cnt p : Nat} {new : Nat → List UInt8} {lf : Int → Bool} {xs : List UInt8} (hrm : d.r ≠ d.m) (hrg : d.r ≠ d.g) (hgm : d.g ≠ d.m) (hi : w.heap.size ≤ it) (hlt : ∀ i, d.own i → i < w.heap.size)
    (hr : Rg w3 d.m it k (fun y => (S.cache y).map pageV) (fun y => lf y && !decide (y = (p : Int))) cnt)
    (hb : Blk w3 d.r 112 [.slice (some ⟨d.g, 0, none⟩) S.pages.length d.cap, .map (some d.m), .int .i64 S.fuse, .int .i64 (S.done : Int)]) (ht : Turned w w3 d.own)
    (hp : PgAt w4 d.g d.cap ((laid S new lf).set p xs)) (hg : w3.drew.grownBy w4 (some d.g)) (hc : (S.cache (p : Int)).isSome = true) (hn : new p = xs) : Heads w d S k it new w4 cnt := by
  have l2 := hlt d.g (.inr (.inl rfl))
  refine ⟨_, hr.keep (hg.block d.m hr.owns.lt (fun e => hgm (Option.some.inj e).symm)) (hg.block it hr.lt (fun e => by have := Option.some.inj e; omega)), (hg.block d.r hb.lt (fun e => hrg (Option.some.inj e))).trans hb, ?_, ?_, hi⟩
  · rw [← laid_step S new lf hc hn]; exact hp
  · exact ht.drew.own_step hg (.inr (.inr (.inl rfl)))
/-- Behind the loop and the clearing: the disk has all. -/
theorem heads_over {w wr w5 : World} {d : Dk} {S : St} {new : Nat → List UInt8} {lf : Int → Bool} (hrm : d.r ≠ d.m) (hgm : d.g ≠ d.m) (ho : S.ok) (hl : ∀ x, lf x = false)
    (hb : Blk wr d.r 112 [.slice (some ⟨d.g, 0, none⟩) S.pages.length d.cap, .map (some d.m), .int .i64 S.fuse, .int .i64 (S.done : Int)]) (hp : PgAt wr d.g d.cap (laid S new lf)) (ht : Turned w wr d.own)
    (hm : Mv w5 d.m 0 (fun _ => none)) (hg : wr.grownBy w5 (some d.m)) (B : Nat) : DskB w5 d { S with pages := S.laidAll new, cache := fun _ => none } B ∧ Turned w w5 d.own := by
  rw [laid_end S new lf hl] at hp
  have e : (S.laidAll new).length = S.pages.length := laid_length _ _ _
  refine ⟨⟨⟨by rw [e]; exact ho.1, by rw [e]; exact ho.2.1, fun x xs hx => by simp at hx, ho.2.2.2⟩, ?_, hp.keep (hg.block d.g hp.lt (fun e => hgm (Option.some.inj e))), 0, Nat.zero_le _, hm⟩, ht.own_step hg (.inr (.inr (.inr rfl)))⟩
  simp only [e]
  exact (hg.block d.r hb.lt (fun e => hrm (Option.some.inj e))).trans hb
set_option maxRecDepth 100000 in
set_option maxHeartbeats 1000000 in
theorem sync_ok (d : Dk) (S : St) (w : World) (h : Dsk w d S) (hf : S.fuse ≠ 0) (hd : S.done ≤ 1000000) :
    Calls Tryz.prog 32 #[.pointer (some ⟨d.r, 0, none⟩)] w fun e w' => e = .returned (.int .i64 0) ∧ Hid (Dsk w' d S.sync ∧ Turned w w' d.own) := by
  have H := kept (alive_ok d S w h hf)
  have c1 := h.c1
  obtain ⟨k, hk, hm⟩ := h.2.2.2
  have HM := kept hm
  have HD := kept h
  have HK := kept hk
  have HDN := kept hd
  have HO := kept h.1
  have HRM := kept h.rm
  have HRG := kept h.rg
  have HGM := kept h.gm
  clear h hf hk hm hd
  go_enter Tryz.func32, Tryz.ntmps32
  go_wp2_with (first | (go_at_call 50; (with_reducible refine (H.out).mono ?_); rintro e w' ⟨rfl, rfl⟩) | (at_range; refine wpList_range_mv rfl 105 117 _ rfl mapU HM.out rfl ?_; intro w0 cnt0 hrg0 hg0 hs0; have HS := kept (HeadR.start (fun i => S.page (i : Int)) HD.out hrg0 hg0); clear hrg0 hg0 hs0 c1))
  go_frame
  generalize hit : w.heap.size = it at HS ⊢
  have HIT := kept hit
  clear hit
  go_loopw [16] (fun _ wr => HeadR w d S k it (fun i => S.page (i : Int)) wr) (fun _ wr => wr.rangeLeft d.m it)
  case atStart => exact HS.out
  case round =>
    obtain ⟨cnt, lf, hrg, hb, hp, ht, hit⟩ := hrel
    have HRG1 := kept hrg
    have HB := kept hb
    have HP := kept hp
    have HT := kept ht
    have HI := kept hit
    clear hrg hb hp ht hit
    go_wp2_with (at_next; refine wpList_next_page rfl _ rfl (n := S.pages.length) HO.out.2.2.1 HRG1.out rfl ?_ ?_)
    · intro hl0
      have HL0 := kept hl0
      have g1 : wr.cell? ⟨d.r, 1, none⟩ = some (.map (some d.m)) := HB.out.cell 1
      clear hl0
      go_wp2_with (first | ((with_reducible refine wpList_clear_mv rfl 105 117 _ rfl mapU HRG1.out.owns ?_ ?_); rfl; intro w5 hm5 hg5 hs5; have HO5 := kept (heads_over HRM.out HGM.out HO.out HL0.out HB.out HP.out HT.out hm5 hg5 (S.done + 1)); have HC := kept (count_any d _ w5 HO5.out.1 HDN.out); clear hm5 hg5 hs5 g1) | (go_at_call 68; (with_reducible refine (HC.out).mono ?_); rintro e w2 ⟨rfl, h2⟩))
      go_ret
      exact ⟨rfl, h2.out.1, HO5.out.2.trans h2.out.2.1⟩
    · intro p xs w1 cnt1 HN hen
      have HXL : Hid (xs.length = 256) := kept HN.out.2.1
      go_wp2_with (first | ((with_reducible refine wpList_alloc_page rfl rfl ?_); intro w2 hb2 hg2 hs2) | ((with_reducible refine wpList_store_page rfl _ _ rfl w1.heap.size 117 (cellsOf noughts) xs ?_ ?_ ?_ ?_ ?_ ?_); rfl; rfl; exact hb2; exact (cellsOf_length _).trans noughts_length; exact HXL.out; intro w3 hb3 hg3 hs3; have HB13 := kept (two_step hg2 hg3); have HB3 := kept hb3; clear hb2 hg2 hs2 hb3 hg3 hs3 hen))
      have HMD := kept (heads_mid HD.out.lt HB.out HP.out HT.out HI.out HN.out.2.2.2.2.2.2.1 HB13.out)
      have g0 : w3.cell? ⟨d.r, 0, none⟩ = some (.slice (some ⟨d.g, 0, none⟩) S.pages.length d.cap) := HMD.out.1.cell 0
      have hpn : (p : Int) < (S.pages.length : Int) := by have := HN.out.1; omega
      refine wp_region_still_tail 7 (by kernel_rfl) (by kernel_rfl) ?_
      simp only [List.take_succ_cons, List.take_zero, List.drop_succ_cons, List.drop_zero]
      iterate 5 still_step
      refine wpStill_load_page rfl _ rfl w1.heap.size 0 rfl xs HB3.out.range HXL.out ?_
      still_step
      refine wpStill_nil ?_
      change wpList _ _ _ _ _ w3.drew
      go_wp2_with ((with_reducible refine wpList_put_page rfl _ _ rfl d.g d.cap (laid S (fun i => S.page (i : Int)) lf) p xs ?_ ?_ ?_ ?_ ?_ ?_); rfl; rfl; exact HMD.out.2.1; exact (laid_length _ _ _).symm ▸ HN.out.1; exact HXL.out; intro w4 hp4 hg4 hs4; have HE : Hid (Heads w d S k it (fun i => S.page (i : Int)) w4 cnt1) := kept (heads_end HRM.out HRG.out HGM.out HI.out HD.out.lt (HN.out.2.2.2.2.1.keep (HB13.out.block _ HN.out.2.2.2.2.1.owns.lt) (HB13.out.block _ HN.out.2.2.2.2.1.lt)) HMD.out.1 HMD.out.2.2 hp4 hg4 (by rw [HN.out.2.2.1]; rfl) (by simp [St.page, HN.out.2.2.1])); clear hp4 hg4 hs4; go_frame)
      go_roundw
      case rel => exact ⟨cnt1, HE.out⟩
      case measure =>
        obtain ⟨_, hr1, _⟩ := HE.out
        rw [hr1.size, HRG1.out.size]
        exact HN.out.2.2.2.2.2.1
end Go.Proofs.YtdjcahhofonclaaGreatDoor
end

section
/-
  What Crash leaves.
-/
namespace Go.Proofs.YtdjcahhofonclaaGreatDoor
open Go.ChangeShapes Go.WideShapes Go.ChangeAt Go.RowKit
set_option linter.unusedVariables false

theorem snoc_ind {α : Type} {P : List α → Prop} (nil : P []) (snoc : ∀ l a, P l → P (l ++ [a])) (l : List α) : P l := by
  have : ∀ n, ∀ l : List α, l.length = n → P l := by
    intro n
    induction n with
    | zero => intro l h; rw [List.eq_nil_of_length_eq_zero h]; exact nil
    | succ n ih =>
      intro l h
      have hne : l ≠ [] := by intro e; rw [e] at h; cases h
      rw [← List.dropLast_concat_getLast hne]
      exact snoc _ _ (ih _ (by rw [List.length_dropLast, h]; rfl))
  exact this _ l rfl
/-- How many bytes are kept. -/
def clampK (b : Int) : Int := if b < 0 then 0 else if 256 < b then 256 else b
theorem clampK_le (b : Int) : 0 ≤ clampK b ∧ clampK b ≤ 256 := by unfold clampK; split <;> (try split) <;> omega
/-- What is said of a page, the last one counts. -/
def kf (l : List (Int × Int)) (y : Int) : Option Int := l.foldl (fun acc q => if y = q.1 then some (clampK q.2) else acc) none
theorem kf_snoc (l : List (Int × Int)) (q : Int × Int) (y : Int) : kf (l ++ [q]) y = if y = q.1 then some (clampK q.2) else kf l y := by simp [kf, List.foldl_append]
theorem kf_le (l : List (Int × Int)) (y : Int) : 0 ≤ (kf l y).getD 0 ∧ (kf l y).getD 0 ≤ 256 := by
  induction l using snoc_ind with
  | nil => simp [kf]
  | snoc l q ih =>
    rw [kf_snoc]
    split
    · exact clampK_le _
    · exact ih
/-- A slice of Keep reads so. -/
def Kp (w : World) (A : Option Addr) (n : Nat) (l : List (Int × Int)) : Prop :=
  l.length = n ∧ (∀ q ∈ l, Wf q.1 ∧ Wf q.2) ∧ (n = 0 ∨ ∃ b o, A = some ⟨b, o, none⟩ ∧ ∀ i (h : i < l.length), w.cell? ⟨b, o + i * 2, none⟩ = some (.int .i64 l[i].1) ∧ w.cell? ⟨b, o + i * 2 + 1, none⟩ = some (.int .i64 l[i].2))
def St.keptN (S : St) (l : List (Int × Int)) (i : Nat) : Nat := ((kf l (i : Int)).getD 0).toNat
def St.torn (S : St) (l : List (Int × Int)) (i : Nat) : List UInt8 := (S.page (i : Int)).take (S.keptN l i) ++ (S.pages.getD i []).drop (S.keptN l i)
def St.crash (S : St) (l : List (Int × Int)) : St := { S with pages := S.laidAll (S.torn l), cache := fun _ => none, fuse := -1 }

section
variable {ops : Array Oper} {rest : List Oper} {op : Oper} {a : Act} {w : World} {Q : Exit → Act → World → Prop}
/-- copy of the first n bytes of a page of its own over a page of the disk. -/
theorem wpList_copy_page (hgd : op.guard = none) (x y : Operand) (ho : op.op = .call { callee := .builtin .copy, args := #[x, y], argTypes := #[62, 62] }) (g cap : Nat) (ps : List (List UInt8)) (i b n c1 c2 : Nat) (t : TypeId) (xs : List UInt8)
    (hx : a.eval x = .slice (some ⟨g, i * 256, none⟩) 256 c1) (hy : a.eval y = .slice (some ⟨b, 0, none⟩) n c2) (hp : PgAt w g cap ps) (hi : i < ps.length) (hb : Blk w b t (cellsOf xs)) (hl : xs.length = 256) (hn : n ≤ 256)
    (h : ∀ w', PgAt w' g cap (ps.set i (xs.take n ++ ps[i].drop n)) → w.grownBy w' (some g) → w'.heap.size = w.heap.size → wpList Tryz.prog ops Q rest (a.put op.dst (goInt n)) w') :
    wpList Tryz.prog ops Q (op :: rest) a w := by
  have hcl : (cellsOf (xs.take n)).length = n := by rw [cellsOf_length, List.length_take, hl]; omega
  have hth := hp.there hi
  have hrun := run_copy_cells (P := Tryz.prog) w 62 62 op.type 5 g (i * 256) 256 c1 ⟨b, 0, none⟩ n c2 (cellsOf (xs.take n)) Tryz.underlying62 (by kernel_rfl) (by rw [hcl]; show n = min n 256; omega)
    (fun j v hv => by
      have hj : j < n := by have := (List.getElem?_eq_some_iff.1 hv).1; rwa [hcl] at this
      rw [Addr.add_mid, Nat.zero_add, hb.cell, ← hv]
      simp [cellsOf, hj])
    (fun j hj => (hth j (by omega)).1) (fun j hj => (hth j (by omega)).2) (cellsOf_one _)
  rw [hcl] at hrun
  obtain ⟨h1, h2⟩ := grown_setCells g (cellsOf (xs.take n)) (i * 256) w
  refine wpList_plain hgd fun _ hK => ?_
  unfold Oper.wp
  simp [execOp, ho, resolve, invoke, builtin, hx, hy, hrun, Result.andThen]
  exact hK _ _ (h _ (hp.put hi hl hn) h1 h2)
end
theorem keepU : Tryz.prog.underlying 113 = some (.map 3 3) := by kernel_rfl
theorem zeroI (w : World) : (zeroValue 3).run Tryz.prog w = .ok (.int .i64 0) w := by kernel_rfl

theorem Kp.at_ {w : World} {A : Option Addr} {n : Nat} {l : List (Int × Int)} (h : Kp w A n l) {k : Nat} (hk : k < n) : ∃ b o P B, A = some ⟨b, o, none⟩ ∧ w.cell? ⟨b, o + k * 2, none⟩ = some (.int .i64 P) ∧ w.cell? ⟨b, o + k * 2 + 1, none⟩ = some (.int .i64 B) ∧ Wf P ∧ Wf B ∧
    ∀ y, kf (l.take (k + 1)) y = if y = P then some (clampK B) else kf (l.take k) y := by
  obtain ⟨h1, h2, h3⟩ := h
  rcases h3 with h0 | ⟨b, o, e, hc⟩
  · omega
  · have hkl : k < l.length := by omega
    obtain ⟨c0, c1⟩ := hc k hkl
    refine ⟨b, o, _, _, e, c0, c1, (h2 _ (List.getElem_mem hkl)).1, (h2 _ (List.getElem_mem hkl)).2, fun y => ?_⟩
    rw [List.take_succ_eq_append_getElem hkl, kf_snoc]
/-- The first loop's round's head. -/
def Firsts (w : World) (F : Nat) (l : List (Int × Int)) (k : Nat) (wr : World) : Prop := Mv wr F k (fun y => (kf (l.take k) y).map (Value.int .i64)) ∧ Below w.heap.size w wr ∧ w.heap.size ≤ F
theorem Firsts.step {w wr w1 w2 : World} {F k : Nat} {l : List (Int × Int)} {P B c : Int} (h : Firsts w F l k wr) (hk : ∀ y, kf (l.take (k + 1)) y = if y = P then some (clampK B) else kf (l.take k) y) (hc : clampK B = c) (hb : Below w.heap.size w w1)
    (hm : Mv w2 F (k + 1) (fun y => if y = P then some (Value.int .i64 c) else (kf (l.take k) y).map (Value.int .i64))) (hg : w1.grownBy w2 (some F)) : Firsts w F l (k + 1) w2 := by
  refine ⟨?_, hb.grown hg hb.size (fun _ e => by cases e; exact h.2.2), h.2.2⟩
  have e : (fun y => if y = P then some (Value.int .i64 c) else (kf (l.take k) y).map (Value.int .i64)) = fun y => (kf (l.take (k + 1)) y).map (Value.int .i64) := by
    funext y
    rw [hk y, hc]
    split <;> rfl
  rw [e] at hm
  exact hm
theorem PgAt.kind_ne {w : World} {g cap m k : Nat} {ps : List (List UInt8)} {f : Int → Option Value} (h : PgAt w g cap ps) (hm : Mv w m k f) : g ≠ m := by
  obtain ⟨cur, hg, _⟩ := h
  obtain ⟨es, cl, hm⟩ := hm.kind
  rintro rfl
  rw [hm] at hg
  simp at hg
def Both (a b : Prop) : Prop := a ∧ b
set_option maxRecDepth 100000 in
set_option maxHeartbeats 1000000 in
theorem crash_any (d : Dk) (S : St) (A : Option Addr) (n cp : Nat) (l : List (Int × Int)) (w : World) (h : Dsk w d S) (hk : Kp w A n l) (hn : n ≤ 1000) :
    Calls Tryz.prog 17 #[.pointer (some ⟨d.r, 0, none⟩), .slice A n cp] w fun e w' => e = .returned (.tuple #[]) ∧ Hid (Dsk w' d (S.crash l) ∧ Turned w w' d.own) := by
  have HD := kept h
  have HKP := kept hk
  have hmm := @run_makeMap Tryz.prog
  have HF : Hid (Firsts w w.heap.size l 0 (w.alloc (.map #[] 0))) := kept ⟨by simpa [kf] using Mv.made w, (Below.refl _ w).alloc (Nat.le_refl _) _, Nat.le_refl _⟩
  have HLN := kept hk.1
  clear h hk
  go_enter Tryz.func17, Tryz.ntmps17
  go_wp2
  generalize hF : w.heap.size = F at HF ⊢
  have HFE := kept hF
  clear hF
  generalize w.alloc (.map #[] 0) = wF at HF ⊢
  go_loopw [14] (fun i wr => ∃ k : Nat, k ≤ n ∧ i = .int .i64 (k : Int) ∧ Hid (Firsts w F l k wr)) (fun i _ => n - (intOf i).toNat)
  case atStart => exact ⟨0, Nat.zero_le _, rfl, HF⟩
  case round =>
    obtain ⟨k, hkn, rfl, HR⟩ := hrel
    by_cases hlt : k < n
    · obtain ⟨b, o, P, B, rfl, c0, c1, wp, wb, hkf⟩ := HKP.out.at_ hlt
      have HKF := kept hkf
      have e0 : wr.cell? ⟨b, o + k * 2, none⟩ = some (.int .i64 P) := (HR.out.2.1.cell (p := ⟨b, o + k * 2, none⟩) (World.block_lt_of_cell? w _ c0)).trans c0
      have e1 : wr.cell? ⟨b, o + k * 2 + 1, none⟩ = some (.int .i64 B) := (HR.out.2.1.cell (p := ⟨b, o + k * 2 + 1, none⟩) (World.block_lt_of_cell? w _ c1)).trans c1
      clear hkf c0 c1
      by_cases b0 : B < 0
      · have HCL : Hid (clampK B = 0) := kept (by simp [clampK, b0])
        go_wp2_with (at_mapUpdate; refine wpList_put_mv rfl 113 3 _ _ _ rfl keepU (HR.out.1.keep (heap_alloc_lt _ _ HR.out.1.lt)) (by unfold maxLen; omega) rfl P rfl wp (.int .i64 0) rfl ?_; intro w2 hm2 hg2; have HS := kept (HR.out.step HKF.out HCL.out ((HR.out.2.1.alloc HR.out.2.1.size _)) hm2 hg2); clear hm2 hg2)
        go_roundw
        case rel => exact ⟨k + 1, by omega, by go_num, HS⟩
        case measure => simp [intOf]; omega
      by_cases b1 : 256 < B
      · have HCL : Hid (clampK B = 256) := kept (by simp [clampK, b0, b1])
        go_wp2_with (at_mapUpdate; refine wpList_put_mv rfl 113 3 _ _ _ rfl keepU (HR.out.1.keep (heap_alloc_lt _ _ HR.out.1.lt)) (by unfold maxLen; omega) rfl P rfl wp (.int .i64 256) rfl ?_; intro w2 hm2 hg2; have HS := kept (HR.out.step HKF.out HCL.out ((HR.out.2.1.alloc HR.out.2.1.size _)) hm2 hg2); clear hm2 hg2)
        go_roundw
        case rel => exact ⟨k + 1, by omega, by go_num, HS⟩
        case measure => simp [intOf]; omega
      · have HCL : Hid (clampK B = B) := kept (by simp [clampK, b0, b1])
        go_wp2_with (at_mapUpdate; refine wpList_put_mv rfl 113 3 _ _ _ rfl keepU (HR.out.1.keep (heap_alloc_lt _ _ HR.out.1.lt)) (by unfold maxLen; omega) rfl P rfl wp (.int .i64 B) rfl ?_; intro w2 hm2 hg2; have HS := kept (HR.out.step HKF.out HCL.out ((HR.out.2.1.alloc HR.out.2.1.size _)) hm2 hg2); clear hm2 hg2)
        go_roundw
        case rel => exact ⟨k + 1, by omega, by go_num, HS⟩
        case measure => simp [intOf]; omega
    · obtain rfl : k = n := by omega
      have hmv : Mv wr F k (fun y => (kf l y).map (Value.int .i64)) := by
        have := HR.out.1
        rwa [List.take_of_length_le (by rw [HLN.out]; exact Nat.le_refl _)] at this
      have hD : Dsk wr d S := HD.out.below (HFE.out ▸ HR.out.2.1)
      have c1 := hD.c1
      obtain ⟨kc, hkc, hm⟩ := hD.2.2.2
      have HM := kept hm
      have HV := kept hmv
      have HDR := kept hD
      have HTR : Hid (Turned w wr d.own) := kept (Turned.of_below HR.out.2.1 _)
      clear hmv hD hkc hm
      go_wp2_with (at_range; refine wpList_range_mv rfl 105 117 _ rfl mapU HM.out rfl ?_; intro w0 cnt0 hrg0 hg0 hs0; have HS := kept (HeadR.start (S.torn l) HDR.out hrg0 hg0); have HV0 := kept (HV.out.keep (hg0.block F HV.out.lt (by simp))); clear hrg0 hg0 hs0 c1)
      go_frame
      have HB0 : Hid (Both (HeadR wr d S kc wr.heap.size (S.torn l) w0) (Mv w0 F k (fun y => (kf l y).map (Value.int .i64)))) := kept ⟨HS.out, HV0.out⟩
      have HO := kept HDR.out.1
      have HRM := kept HDR.out.rm
      have HRG := kept HDR.out.rg
      have HGM := kept HDR.out.gm
      have HFL := kept HV.out.lt
      clear HS HV0
      generalize hit : wr.heap.size = it at HB0 ⊢
      have HIT := kept hit
      clear hit
      go_loopw [31] (fun _ wx => Both (HeadR wr d S kc it (S.torn l) wx) (Mv wx F k (fun y => (kf l y).map (Value.int .i64)))) (fun _ wx => wx.rangeLeft d.m it)
      case atStart => exact HB0.out
      case round =>
        obtain ⟨⟨cnt, lf, hrg, hb, hp, ht, hit⟩, hv⟩ := hrel
        have HRG1 := kept hrg
        have HB := kept hb
        have HP := kept hp
        have HT := kept ht
        have HI := kept hit
        have HVX := kept hv
        rename World => wx
        clear hrg hb hp ht hit hv
        go_wp2_with (at_next; refine wpList_next_page rfl _ rfl (n := S.pages.length) HO.out.2.2.1 HRG1.out rfl ?_ ?_)
        · intro hl0
          have HL0 := kept hl0
          have g1 : wx.cell? ⟨d.r, 1, none⟩ = some (.map (some d.m)) := HB.out.cell 1
          clear hl0
          go_wp2_with ((with_reducible refine wpList_clear_mv rfl 105 117 _ rfl mapU HRG1.out.owns ?_ ?_); rfl; intro w5 hm5 hg5 hs5; have HO5 := kept (heads_over HRM.out HGM.out HO.out HL0.out HB.out HP.out HT.out hm5 hg5 S.done); have g2 : w5.cell? ⟨d.r, 2, none⟩ = some (.int .i64 S.fuse) := HO5.out.1.2.1.cell 2; have f2 : w5.frozen? ⟨d.r, 2, none⟩ = false := HO5.out.1.2.1.frozen 2; clear hm5 hg5 hs5 g1)
          go_end0
          exact ⟨rfl, kept ⟨DskB.set HO5.out.1 (fu := -1) (by omega) (by omega), HTR.out.trans ((HO5.out.2.mono fun _ _ e => e).setCell (fun _ => .inl rfl) _)⟩⟩
        · intro p xs w1 cnt1 HN hen
          have HXL : Hid (xs.length = 256) := kept HN.out.2.1
          go_wp2_with (first | ((with_reducible refine wpList_alloc_page rfl rfl ?_); intro w2 hb2 hg2 hs2) | ((with_reducible refine wpList_store_page rfl _ _ rfl w1.heap.size 117 (cellsOf noughts) xs ?_ ?_ ?_ ?_ ?_ ?_); rfl; rfl; exact hb2; exact (cellsOf_length _).trans noughts_length; exact HXL.out; intro w3 hb3 hg3 hs3; have HB13 := kept (two_step hg2 hg3); have HB3 := kept hb3; clear hb2 hg2 hs2 hb3 hg3 hs3 hen))
          have HMD := kept (heads_mid HDR.out.lt HB.out HP.out HT.out HI.out HN.out.2.2.2.2.2.2.1 HB13.out)
          have g0 : w3.cell? ⟨d.r, 0, none⟩ = some (.slice (some ⟨d.g, 0, none⟩) S.pages.length d.cap) := HMD.out.1.cell 0
          have hpn : (p : Int) < (S.pages.length : Int) := by have := HN.out.1; omega
          have HV3 : Hid (Mv w3 F k (fun y => (kf l y).map (Value.int .i64))) := kept (by
            have s1 := HVX.out.lt
            have s2 := HN.out.2.2.2.2.2.2.1.size
            have s3 := HI.out
            have s4 := HFL.out
            exact HVX.out.keep ((HB13.out.block F (by omega)).trans (HN.out.2.2.2.2.2.2.1.block F s1 (fun e => by have := Option.some.inj e; omega))))
          obtain ⟨q, hq, hq2⟩ : ∃ q : Nat, S.keptN l p = q ∧ (kf l (p : Int)).getD 0 = (q : Int) := ⟨_, rfl, by have := (kf_le l (p : Int)).1; unfold St.keptN; omega⟩
          have hq256 : (q : Int) ≤ 256 := by have := (kf_le l (p : Int)).2; omega
          have HQ := kept hq
          have HQ2 : Hid (((fun y => (kf l y).map (Value.int .i64)) (p : Int)).getD (Value.int .i64 0) = .int .i64 (q : Int)) := kept (by
            rw [← hq2]
            show ((kf l (p : Int)).map (Value.int .i64)).getD (Value.int .i64 0) = _
            cases kf l (p : Int) <;> rfl)
          clear hq hq2
          have hwp : Wf (p : Int) := by have := HO.out.2.1; unfold Wf; omega
          refine wp_region_still_tail 11 (by kernel_rfl) (by kernel_rfl) ?_
          simp only [List.take_succ_cons, List.take_zero, List.drop_succ_cons, List.drop_zero]
          iterate 9 still_step
          refine wpStill_look rfl 113 3 _ _ rfl keepU (.int .i64 0) zeroI HV3.out rfl (p : Int) rfl hwp _ HQ2.out ?_
          still_step
          refine wpStill_nil ?_
          change wpList _ _ _ _ _ w3.drew
          have hpl : p < (laid S (S.torn l) lf).length := (laid_length S (S.torn l) lf).symm ▸ HN.out.1
          have HPL := kept hpl
          clear hpl
          have HNW : Hid (S.torn l p = xs.take q ++ ((laid S (S.torn l) lf)[p]'HPL.out).drop q) := kept (by
            rw [laid_at S (S.torn l) lf HPL.out HN.out.2.2.2.1]
            simp [St.torn, HQ.out, St.page, HN.out.2.2.1])
          go_wp2_with ((with_reducible refine wpList_copy_page rfl _ _ rfl d.g d.cap (laid S (S.torn l) lf) p w1.heap.size q 256 256 117 xs ?_ ?_ ?_ ?_ ?_ ?_ ?_ ?_); rfl; rfl; exact HMD.out.2.1; exact HPL.out; exact HB3.out; exact HXL.out; omega; intro w4 hp4 hg4 hs4; have HE : Hid (Heads wr d S kc it (S.torn l) w4 cnt1) := kept (heads_end HRM.out HRG.out HGM.out HI.out HDR.out.lt (HN.out.2.2.2.2.1.keep (HB13.out.block _ HN.out.2.2.2.2.1.owns.lt) (HB13.out.block _ HN.out.2.2.2.2.1.lt)) HMD.out.1 HMD.out.2.2 hp4 hg4 (by rw [HN.out.2.2.1]; rfl) HNW.out); have HV4 := kept (HV3.out.keep (hg4.block F HV3.out.lt (fun e => absurd (HMD.out.2.1.kind_ne HV3.out) (fun h => h (Option.some.inj e).symm)))); clear hp4 hg4 hs4; go_frame)
          go_roundw
          case rel => exact ⟨⟨cnt1, HE.out⟩, HV4.out⟩
          case measure =>
            obtain ⟨_, hr1, _⟩ := HE.out
            rw [hr1.size, HRG1.out.size]
            exact HN.out.2.2.2.2.2.1
end Go.Proofs.YtdjcahhofonclaaGreatDoor
end

section
/-
  What terrierlaw03.Filled and lives answer.
-/
namespace Go.Proofs.YtdjcahhofonclaaGreatDoor
open Go.ChangeShapes Go.WideShapes Go.ChangeAt Go.RowKit
set_option linter.unusedVariables false

def fill (c : Int) : List UInt8 := List.replicate 256 (UInt8.ofNat c.toNat)
theorem fill_length (c : Int) : (fill c).length = 256 := List.length_replicate ..
theorem fill_cells (c : Int) (h0 : 0 ≤ c) (h1 : c ≤ 255) : cellsOf (fill c) = List.replicate 256 (.int .u8 c) := by
  unfold cellsOf fill
  rw [List.map_replicate]
  congr 1
  unfold byteV
  rw [UInt8.toNat_ofNat']
  congr 1
  omega
/-- A row under way. -/
def part3 (c : Int) (k : Nat) : List Value := List.replicate k (.int .u8 c) ++ List.replicate (256 - k) (.int .u8 0)
theorem part3_at (c : Int) {k : Nat} (h : k < 256) : (part3 c k)[k]? = some (.int .u8 0) := by
  unfold part3
  rw [List.getElem?_append_right (by rw [List.length_replicate]; exact Nat.le_refl _), List.length_replicate, Nat.sub_self, List.getElem?_replicate, if_pos (by omega)]
theorem part3_set (c : Int) {k : Nat} (h : k < 256) : (part3 c k).set k (.int .u8 c) = part3 c (k + 1) := by
  have e : 256 - k = (256 - (k + 1)) + 1 := by omega
  unfold part3
  rw [List.set_append, if_neg (by rw [List.length_replicate]; omega), List.length_replicate, Nat.sub_self, e, List.replicate_succ, List.set_cons_zero, List.replicate_succ', List.append_assoc]
  rfl
theorem make_bytes (w : World) : (Instr.makeSlice 62 (.int .i64 256) (.int .i64 256)).run Tryz.prog w = .ok (.slice (some ⟨w.heap.size, 0, none⟩) 256 256) (w.alloc (.cells (List.replicate 256 (.int .u8 0)).toArray 5)) := by
  obtain ⟨i, hi, hz, hsz, hby⟩ := info_parts (show (Tryz.prog.info? 5).map (fun i => (i.zero, i.size, i.bytes)) = some (some (.int .u8 0), 1, 1) by kernel_rfl)
  have hmk := run_make (P := Tryz.prog) w 62 5 i (.int .u8 0) Tryz.underlying62 hi hz .i64 .i64 256 256 (by omega) (by omega) (by rw [hby]; omega) (by omega)
  rw [hsz] at hmk
  have e : madeCells (Value.int .u8 0).cells ((256 : Int).toNat * 1) = (List.replicate 256 (.int .u8 0)).toArray := by
    apply Array.ext
    · rw [size_madeCells, List.size_toArray, List.length_replicate]; rfl
    · intro j h1 h2
      have e1 : (List.replicate 256 (Value.int .u8 0)).toArray[j] = .int .u8 0 := by simp only [List.getElem_toArray, List.getElem_replicate]
      rw [e1]
      simp [madeCells, Value.cells, Nat.mod_one]
  rw [e] at hmk
  exact hmk
theorem new8 (w : World) : Calls Tryz.prog 26 #[.int .i64 8] w fun e w' => ∃ d : Dk, e = .returned (.pointer (some ⟨d.r, 0, none⟩)) ∧ Dsk w' d (fresh 8) ∧ (∀ i, d.own i → w.heap.size ≤ i) ∧ Below w.heap.size w w' := new_any 8 w (by omega) (by omega)
theorem new16 (w : World) : Calls Tryz.prog 26 #[.int .i64 16] w fun e w' => ∃ d : Dk, e = .returned (.pointer (some ⟨d.r, 0, none⟩)) ∧ Dsk w' d (fresh 16) ∧ (∀ i, d.own i → w.heap.size ≤ i) ∧ Below w.heap.size w w' := new_any 16 w (by omega) (by omega)
theorem new32 (w : World) : Calls Tryz.prog 26 #[.int .i64 32] w fun e w' => ∃ d : Dk, e = .returned (.pointer (some ⟨d.r, 0, none⟩)) ∧ Dsk w' d (fresh 32) ∧ (∀ i, d.own i → w.heap.size ≤ i) ∧ Below w.heap.size w w' := new_any 32 w (by omega) (by omega)
theorem Blk.rd {w : World} {b : Nat} {t : TypeId} {xs : List UInt8} (h : Blk w b t (cellsOf xs)) {n : Nat} (hl : xs.length = n) : Rd w (some ⟨b, 0, none⟩) n xs := by
  refine ⟨hl, fun _ => ⟨_, rfl, fun j hj => ?_⟩⟩
  rw [Addr.add_mid, Nat.zero_add, h.cell, cellsOf_get xs j hj]
theorem fresh_len (k : Nat) : (fresh k).pages.length = k := List.length_replicate ..
theorem write_page_same (S : St) (p : Int) (xs : List UInt8) : (S.write p xs).page p = xs := by simp [St.write, St.count, St.page]
theorem write_pages (S : St) (p : Int) (xs : List UInt8) : (S.write p xs).pages = S.pages := rfl
theorem write_done (S : St) (p : Int) (xs : List UInt8) : (S.write p xs).done = S.done + 1 := rfl
theorem write_fuse (S : St) (p : Int) (xs : List UInt8) (h : S.fuse = -1) : (S.write p xs).fuse = -1 := by simp [St.write, St.count, h]
theorem kp_nil (w : World) : Kp w none 0 [] := ⟨rfl, (fun q hq => by cases hq), .inl rfl⟩
theorem crash_len (S : St) (l : List (Int × Int)) : (S.crash l).pages.length = S.pages.length := by
  show (S.laidAll (S.torn l)).length = S.pages.length
  exact laid_length S _ _
theorem sync_len (S : St) : S.sync.pages.length = S.pages.length := by
  show (S.laidAll (fun i => S.page (i : Int))).length = S.pages.length
  exact laid_length S _ _
def lived : St := (fresh 8).write 3 (fill 1)
theorem lived_facts : lived.pages.length = 8 ∧ lived.page 3 = fill 1 ∧ lived.done = 1 ∧ lived.fuse = -1 := ⟨by unfold lived; rw [write_pages, fresh_len], write_page_same _ _ _, rfl, write_fuse _ _ _ rfl⟩
end Go.Proofs.YtdjcahhofonclaaGreatDoor
end
