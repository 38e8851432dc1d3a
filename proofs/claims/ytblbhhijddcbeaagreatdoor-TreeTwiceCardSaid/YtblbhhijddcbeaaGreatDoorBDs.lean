/- Ds Dr Df -/
import Derived.Test.YtblbhhijddcbeaaGreatDoorBDc
import Derived.Deep.LoopGhost
import Derived.Outline
import Derived.Test.YtblbhhijddcbeaaGreatDoorBBase
section
namespace Go.Proofs.YtblbhhijddcbeaaGreatDoor
open Go.ChangeShapes Go.WideShapes Go.ChangeAt Go.RowKit
set_option linter.unusedVariables false
set_option linter.unusedSimpArgs false
set_option maxRecDepth 100000
set_option maxHeartbeats 16000000
section
variable {ops : Array Oper} {rest : List Oper} {op : Oper} {a : Act} {w : World} {Q : Exit → Act → World → Prop}
theorem wpList_put_page (hgd : op.guard = none) (x y : Operand) (ho : op.op = .store 117 x y) (g cap : Nat) (ps : List (List UInt8)) (i : Nat) (xs : List UInt8) (hx : a.eval x = .pointer (some ⟨g, i * 256, none⟩)) (hy : a.eval y = pageV xs)
 (hp : PgAt w g cap ps) (hi : i < ps.length) (hl : xs.length = 256) (h : ∀ w', PgAt w' g cap (ps.set i xs) → w.grownBy w' (some g) → w'.heap.size = w.heap.size → wpList Tryz.prog ops Q rest (a.put op.dst undef) w') :
 wpList Tryz.prog ops Q (op :: rest) a w := by
 have hrun := run_store_page (hp.there hi) hl; obtain ⟨h1, h2⟩ := grown_setCells g (cellsOf xs) (i * 256) w; refine wpList_plain hgd fun _ hK => ?_
 unfold Oper.wp execOp; simp only [ho, hx, hy, hrun, Sem.run_bind, Sem.run_pure, Result.andThen_ok]; exact hK _ _ (h _ (hp.put_all hi hl) h1 h2)
theorem wpList_next_page (hgd : op.guard = none) (x : Operand) (ho : op.op = .next x false) {m it k n : Nat} {f : Int → Option (List UInt8)} {lf : Int → Bool} {cnt : Nat} (hf : ∀ y xs, f y = some xs → 0 ≤ y ∧ y < (n : Int) ∧ xs.length = 256)
 (h : Rg w m it k (fun y => (f y).map pageV) lf cnt) (hx : a.eval x = .pointer (some ⟨it, 0, none⟩))
 (hDone : (∀ x, lf x = false) → wpList Tryz.prog ops Q rest (a.put op.dst (.tuple #[.bool false])) w)
 (hMore : ∀ (p : Nat) (xs : List UInt8) (w' : World) (cnt' : Nat), Hid (p < n ∧ xs.length = 256 ∧ f (p : Int) = some xs ∧ lf (p : Int) = true ∧ Rg w' m it k (fun y => (f y).map pageV) (fun y => lf y && !decide (y = (p : Int))) cnt' ∧ cnt' < cnt ∧ w.grownBy w' (some it) ∧ w'.heap.size = w.heap.size) →
  (Instr.entry (.pointer (some ⟨it, 0, none⟩))).run Tryz.prog w' = .ok (.tuple #[.int .i64 (p : Int), pageV xs]) w' → wpList Tryz.prog ops Q rest (a.put op.dst (.tuple #[.bool true, .int .i64 (p : Int), pageV xs])) w') : wpList Tryz.prog ops Q (op :: rest) a w := by
 refine wpList_next_mv hgd x ho h hx hDone ?_; intro p v w' cnt' hp hv hl hr hlt hg hs hen; simp only [Option.map_eq_some_iff] at hv; obtain ⟨xs, hxs, rfl⟩ := hv; obtain ⟨h0, h1, h2⟩ := hf p xs hxs; obtain ⟨q, rfl⟩ := Int.eq_ofNat_of_zero_le h0; exact hMore q xs w' cnt' (kept ⟨by omega, h2, hxs, hl, hr, hlt, hg, hs⟩) hen
end
def laid (S : St) (new : Nat → List UInt8) (lf : Int → Bool) : List (List UInt8) := (List.range S.pages.length).map fun (i : Nat) => if lf (i : Int) = false ∧ (S.cache (i : Int)).isSome = true then new i else S.pages.getD i []
theorem laid_length (S : St) (new : Nat → List UInt8) (lf : Int → Bool) : (laid S new lf).length = S.pages.length := by simp [laid]
theorem laid_start (S : St) (new : Nat → List UInt8) : laid S new (fun y => ((S.cache y).map pageV).isSome) = S.pages := by
 apply List.ext_getElem (laid_length _ _ _); intro i h1 h2; simp only [laid, List.getElem_map, List.getElem_range]; rw [if_neg (by simp)]; simp [h2]
theorem laid_step (S : St) (new : Nat → List UInt8) (lf : Int → Bool) {p : Nat} {xs : List UInt8} (hc : (S.cache (p : Int)).isSome = true) (hn : new p = xs) :
 (laid S new lf).set p xs = laid S new (fun y => lf y && !decide (y = (p : Int))) := by
 apply List.ext_getElem (by simp [laid]); intro i h1 h2; rw [List.getElem_set]; simp only [laid, List.getElem_map, List.getElem_range]; by_cases e : p = i
 · subst e; simp [hc, hn]
 · have : ((i : Int) ≠ (p : Int)) := by omega
   rw [if_neg e]; simp [this]
def St.laidAll (S : St) (new : Nat → List UInt8) : List (List UInt8) := laid S new (fun _ => false)
theorem laid_end (S : St) (new : Nat → List UInt8) (lf : Int → Bool) (h : ∀ x, lf x = false) : laid S new lf = S.laidAll new := by
 have : lf = fun _ => false := funext h
 rw [this]; rfl
def Heads (w : World) (d : Dk) (S : St) (k it : Nat) (new : Nat → List UInt8) (wr : World) (cnt : Nat) : Prop :=
 ∃ lf, Rg wr d.m it k (fun y => (S.cache y).map pageV) lf cnt ∧ Blk wr d.r 115 [.slice (some ⟨d.g, 0, none⟩) S.pages.length d.cap, .map (some d.m), .int .i64 S.fuse, .int .i64 (S.done : Int)] ∧ PgAt wr d.g d.cap (laid S new lf) ∧ Turned w wr d.own ∧ w.heap.size ≤ it
def HeadR (w : World) (d : Dk) (S : St) (k it : Nat) (new : Nat → List UInt8) (wr : World) : Prop := ∃ cnt, Heads w d S k it new wr cnt
theorem HeadR.start {w w0 : World} {d : Dk} {S : St} {k cnt : Nat} (new : Nat → List UInt8) (h : Dsk w d S) (hr : Rg w0 d.m w.heap.size k (fun y => (S.cache y).map pageV) (fun x => ((S.cache x).map pageV).isSome) cnt) (hg : w.grownBy w0 none) :
 HeadR w d S k w.heap.size new w0 := by
 refine ⟨cnt, _, hr, (hg.block d.r (h.lt _ (.inl rfl)) (by simp)).trans h.2.1, ?_, Turned.of_grown hg (fun _ e => by cases e), Nat.le_refl _⟩; rw [laid_start]; exact h.2.2.1.keep (hg.block d.g (h.lt _ (.inr (.inl rfl))) (by simp))
theorem sync_no (d : Dk) (S : St) (w : World) (h : Dsk w d S) (hf : S.fuse = 0) :
 Calls Tryz.prog 116 #[.pointer (some ⟨d.r, 0, none⟩)] w fun e w' => e = .returned (.int .i64 10) ∧ w = w' := by
 have H := kept (alive_dead d S w h hf); clear h hf; go_enter Tryz.func116, Tryz.ntmps116; go_wp2_with (first | (go_at_call 113; (with_reducible refine (H.out).mono ?_); rintro e w' ⟨rfl, rfl⟩))
 go_ret; exact ⟨rfl, rfl⟩
def St.sync (S : St) : St := ({ S with pages := S.laidAll (fun i => S.page (i : Int)), cache := fun _ => none } : St).count
theorem Turned.own_step {w wr w' : World} {d : Dk} {b : Nat} (t : Turned w wr d.own) (g : wr.grownBy w' (some b)) (hb : w.heap.size ≤ b ∨ d.own b) : Turned w w' d.own :=
 t.grown g fun j hj e => by
  cases e; rcases hb with hb | hb
  · omega
  · exact hb
theorem heads_mid {w wr w1 w3 : World} {d : Dk} {cap it : Nat} {t : TypeId} {cs : List Value} {ps : List (List UInt8)} (hlt : ∀ i, d.own i → i < w.heap.size) (hb : Blk wr d.r t cs) (hp : PgAt wr d.g cap ps) (ht : Turned w wr d.own) (hi : w.heap.size ≤ it)
 (hg1 : wr.grownBy w1 (some it)) (b13 : Below w1.heap.size w1 w3) : Blk w3 d.r t cs ∧ PgAt w3 d.g cap ps ∧ Turned w w3 d.own := by
 have l1 := hlt d.r (.inl rfl); have l2 := hlt d.g (.inr (.inl rfl)); have s1 := Nat.le_trans ht.size hg1.size; refine ⟨(b13.block d.r (by omega)).trans ((hg1.block d.r hb.lt (fun e => by have := Option.some.inj e; omega)).trans hb), hp.keep ((b13.block d.g (by omega)).trans (hg1.block d.g hp.lt (fun e => by have := Option.some.inj e; omega))), ?_⟩; exact (ht.own_step hg1 (.inl hi)).then_below b13 fun i hi hb => by omega
theorem heads_end {w w3 w4 : World} {d : Dk} {S : St} {k it cnt p : Nat} {new : Nat → List UInt8} {lf : Int → Bool} {xs : List UInt8} (hrm : d.r ≠ d.m) (hrg : d.r ≠ d.g) (hgm : d.g ≠ d.m) (hi : w.heap.size ≤ it) (hlt : ∀ i, d.own i → i < w.heap.size)
 (hr : Rg w3 d.m it k (fun y => (S.cache y).map pageV) (fun y => lf y && !decide (y = (p : Int))) cnt)
 (hb : Blk w3 d.r 115 [.slice (some ⟨d.g, 0, none⟩) S.pages.length d.cap, .map (some d.m), .int .i64 S.fuse, .int .i64 (S.done : Int)]) (ht : Turned w w3 d.own)
 (hp : PgAt w4 d.g d.cap ((laid S new lf).set p xs)) (hg : w3.drew.grownBy w4 (some d.g)) (hc : (S.cache (p : Int)).isSome = true) (hn : new p = xs) : Heads w d S k it new w4 cnt := by
 have l2 := hlt d.g (.inr (.inl rfl)); refine ⟨_, hr.keep (hg.block d.m hr.owns.lt (fun e => hgm (Option.some.inj e).symm)) (hg.block it hr.lt (fun e => by have := Option.some.inj e; omega)), (hg.block d.r hb.lt (fun e => hrg (Option.some.inj e))).trans hb, ?_, ?_, hi⟩
 · rw [← laid_step S new lf hc hn]; exact hp
 · exact ht.drew.own_step hg (.inr (.inr (.inl rfl)))
theorem heads_over {w wr w5 : World} {d : Dk} {S : St} {new : Nat → List UInt8} {lf : Int → Bool} (hrm : d.r ≠ d.m) (hgm : d.g ≠ d.m) (ho : S.ok) (hl : ∀ x, lf x = false)
 (hb : Blk wr d.r 115 [.slice (some ⟨d.g, 0, none⟩) S.pages.length d.cap, .map (some d.m), .int .i64 S.fuse, .int .i64 (S.done : Int)]) (hp : PgAt wr d.g d.cap (laid S new lf)) (ht : Turned w wr d.own)
 (hm : Mv w5 d.m 0 (fun _ => none)) (hg : wr.grownBy w5 (some d.m)) (B : Nat) : DskB w5 d { S with pages := S.laidAll new, cache := fun _ => none } B ∧ Turned w w5 d.own := by
 rw [laid_end S new lf hl] at hp; have e : (S.laidAll new).length = S.pages.length := laid_length _ _ _; refine ⟨⟨⟨by rw [e]; exact ho.1, by rw [e]; exact ho.2.1, fun x xs hx => by simp at hx, ho.2.2.2⟩, ?_, hp.keep (hg.block d.g hp.lt (fun e => hgm (Option.some.inj e))), 0, Nat.zero_le _, hm⟩, ht.own_step hg (.inr (.inr (.inr rfl)))⟩; simp only [e]; exact (hg.block d.r hb.lt (fun e => hrm (Option.some.inj e))).trans hb
theorem sync_ok (d : Dk) (S : St) (w : World) (h : Dsk w d S) (hf : S.fuse ≠ 0) (hd : S.done ≤ 1000000) :
 Calls Tryz.prog 116 #[.pointer (some ⟨d.r, 0, none⟩)] w fun e w' => e = .returned (.int .i64 0) ∧ Hid (Dsk w' d S.sync ∧ Turned w w' d.own) := by
 have H := kept (alive_ok d S w h hf); have c1 := h.c1; obtain ⟨k, hk, hm⟩ := h.2.2.2; have HM := kept hm; have HD := kept h; have HK := kept hk; have HDN := kept hd; have HO := kept h.1; have HRM := kept h.rm; have HRG := kept h.rg; have HGM := kept h.gm; clear h hf hk hm hd; go_enter Tryz.func116, Tryz.ntmps116; go_wp2_with (first | (go_at_call 113; (with_reducible refine (H.out).mono ?_); rintro e w' ⟨rfl, rfl⟩) | (at_range; refine wpList_range_mv rfl 108 117 _ rfl mapU HM.out rfl ?_; intro w0 cnt0 hrg0 hg0 hs0; have HS := kept (HeadR.start (fun i => S.page (i : Int)) HD.out hrg0 hg0); clear hrg0 hg0 hs0 c1))
 go_frame
 generalize hit : w.heap.size = it at HS ⊢; have HIT := kept hit; clear hit; go_loopw [16] (fun _ wr => HeadR w d S k it (fun i => S.page (i : Int)) wr) (fun _ wr => wr.rangeLeft d.m it)
 case atStart => exact HS.out
 case round =>
  obtain ⟨cnt, lf, hrg, hb, hp, ht, hit⟩ := hrel; have HRG1 := kept hrg; have HB := kept hb; have HP := kept hp; have HT := kept ht; have HI := kept hit; clear hrg hb hp ht hit; go_wp2_with (at_next; refine wpList_next_page rfl _ rfl (n := S.pages.length) HO.out.2.2.1 HRG1.out rfl ?_ ?_)
  · intro hl0; have HL0 := kept hl0; have g1 : wr.cell? ⟨d.r, 1, none⟩ = some (.map (some d.m)) := HB.out.cell 1; clear hl0; go_wp2_with (first | ((with_reducible refine wpList_clear_mv rfl 108 117 _ rfl mapU HRG1.out.owns ?_ ?_); rfl; intro w5 hm5 hg5 hs5; have HO5 := kept (heads_over HRM.out HGM.out HO.out HL0.out HB.out HP.out HT.out hm5 hg5 (S.done + 1)); have HC := kept (count_any d _ w5 HO5.out.1 HDN.out); clear hm5 hg5 hs5 g1) | (go_at_call 65; (with_reducible refine (HC.out).mono ?_); rintro e w2 ⟨rfl, h2⟩))
    go_ret; exact ⟨rfl, h2.out.1, HO5.out.2.trans h2.out.2.1⟩
  · intro p xs w1 cnt1 HN hen; have HXL : Hid (xs.length = 256) := kept HN.out.2.1; go_wp2_with (first | ((with_reducible refine wpList_alloc_page rfl rfl ?_); intro w2 hb2 hg2 hs2) | ((with_reducible refine wpList_store_page rfl _ _ rfl w1.heap.size 117 (cellsOf noughts) xs ?_ ?_ ?_ ?_ ?_ ?_); rfl; rfl; exact hb2; exact (cellsOf_length _).trans noughts_length; exact HXL.out; intro w3 hb3 hg3 hs3; have HB13 := kept (two_step hg2 hg3); have HB3 := kept hb3; clear hb2 hg2 hs2 hb3 hg3 hs3 hen))
    have HMD := kept (heads_mid HD.out.lt HB.out HP.out HT.out HI.out HN.out.2.2.2.2.2.2.1 HB13.out); have g0 : w3.cell? ⟨d.r, 0, none⟩ = some (.slice (some ⟨d.g, 0, none⟩) S.pages.length d.cap) := HMD.out.1.cell 0; have hpn : (p : Int) < (S.pages.length : Int) := by have := HN.out.1; omega
    refine wp_region_still_tail 7 (by kernel_rfl) (by kernel_rfl) ?_; simp only [List.take_succ_cons, List.take_zero, List.drop_succ_cons, List.drop_zero]
    iterate 5 still_step
    refine wpStill_load_page rfl _ rfl w1.heap.size 0 rfl xs HB3.out.range HXL.out ?_
    still_step
    refine wpStill_nil ?_
    change wpList _ _ _ _ _ w3.drew
    go_wp2_with ((with_reducible refine wpList_put_page rfl _ _ rfl d.g d.cap (laid S (fun i => S.page (i : Int)) lf) p xs ?_ ?_ ?_ ?_ ?_ ?_); rfl; rfl; exact HMD.out.2.1; exact (laid_length _ _ _).symm ▸ HN.out.1; exact HXL.out; intro w4 hp4 hg4 hs4; have HE : Hid (Heads w d S k it (fun i => S.page (i : Int)) w4 cnt1) := kept (heads_end HRM.out HRG.out HGM.out HI.out HD.out.lt (HN.out.2.2.2.2.1.keep (HB13.out.block _ HN.out.2.2.2.2.1.owns.lt) (HB13.out.block _ HN.out.2.2.2.2.1.lt)) HMD.out.1 HMD.out.2.2 hp4 hg4 (by rw [HN.out.2.2.1]; rfl) (by simp [St.page, HN.out.2.2.1])); clear hp4 hg4 hs4; go_frame)
    go_roundw
    case rel => exact ⟨cnt1, HE.out⟩
    case measure =>
     obtain ⟨_, hr1, _⟩ := HE.out; rw [hr1.size, HRG1.out.size]; exact HN.out.2.2.2.2.2.1
def Kp (w : World) (A : Option Addr) (n : Nat) (l : List (Int × Int)) : Prop :=
 l.length = n ∧ (∀ q ∈ l, Wf q.1 ∧ Wf q.2) ∧ (n = 0 ∨ ∃ b o, A = some ⟨b, o, none⟩ ∧ ∀ i (h : i < l.length), w.cell? ⟨b, o + i * 2, none⟩ = some (.int .i64 l[i].1) ∧ w.cell? ⟨b, o + i * 2 + 1, none⟩ = some (.int .i64 l[i].2))
section
variable {ops : Array Oper} {rest : List Oper} {op : Oper} {a : Act} {w : World} {Q : Exit → Act → World → Prop}
end
theorem Blk.rd {w : World} {b : Nat} {t : TypeId} {xs : List UInt8} (h : Blk w b t (cellsOf xs)) {n : Nat} (hl : xs.length = n) : Rd w (some ⟨b, 0, none⟩) n xs := by
 refine ⟨hl, fun _ => ⟨_, rfl, fun j hj => ?_⟩⟩; rw [Addr.add_mid, Nat.zero_add, h.cell, cellsOf_get xs j hj]
theorem fresh_len (k : Nat) : (fresh k).pages.length = k := List.length_replicate ..
theorem sync_len (S : St) : S.sync.pages.length = S.pages.length := by
 show (S.laidAll (fun i => S.page (i : Int))).length = S.pages.length; exact laid_length S _ _
end Go.Proofs.YtblbhhijddcbeaaGreatDoor
end
