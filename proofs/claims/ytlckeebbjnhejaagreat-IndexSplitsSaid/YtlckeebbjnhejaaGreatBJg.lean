/-
  Texts laid together: Jg Jh.
-/
import Derived.Test.YtlckeebbjnhejaaGreatBJa
import Derived.BigQuiet
section
/-
  The document's own index: Compact.
-/
namespace Go.Proofs.YtlckeebbjnhejaaGreat
open Go.ChangeShapes Go.WideShapes Go.ChangeAt Go.RowKit Go.Deep
set_option linter.unusedVariables false
set_option linter.unusedSimpArgs false

theorem DKAt.apart {w w' : World} {B N : Nat} {K : DK} (h : DKAt w B N K) {b2 n2 k2 : Nat} {A2 : Option Addr} {xs2 : List Value} (h2 : w.ownsRow b2 122 2 (.slice A2 n2 k2) n2 xs2) (g : w.grownBy w' (Value.slice A2 n2 k2).ownBlock) : DKAt w' B N K :=
  ⟨gown_apart h.key h2 g (by decide), gown_apart h.ent h2 g (by decide), h.len, h.gl⟩
theorem DKAt.below {w w' : World} {B N : Nat} {K : DK} (h : DKAt w B N K) (hb : Below w.heap.size w w') : DKAt w' B N K := h.turned (Turned.of_below hb (fun _ => False)) (fun _ _ e => e) (fun _ _ e => e)
theorem turnR_blk {M : Nat} {w w' : World} (t : TurnR M w w') {j : Nat} {s : TypeId} {cs : List Value} (h : Blk w j s cs) (h1 : s ≠ 118) (h2 : s ≠ 124) : Blk w' j s cs := Turned.blk t h (by
  rintro ⟨_, c, u, f, e, hu⟩
  rcases hu with rfl | rfl
  · exact ne_of_types (show w.heap[j]? = some _ from h) e h1 rfl
  · exact ne_of_types (show w.heap[j]? = some _ from h) e h2 rfl)
/-- What has been kept so far, beside the answer. -/
structure OutK (w : World) (B N g n c : Nat) (Ks : List DK) (A5 : Option Addr) (n5 c5 : Nat) (ps : List Rv) (wr : World) : Prop where
  own : wr.ownsRow w.heap.size 122 2 (.slice (some ⟨g, 0, none⟩) n c) n (kC Ks)
  bel : Below w.heap.size w wr
  all : ∀ K ∈ Ks, DKAt wr B (N + 1) K
  ans : wr.ownsRow w.heap.size 29 2 (.slice A5 n5 c5) n5 (rvC ps)
theorem OutK.below {w wr w' : World} {B N g n c n5 c5 : Nat} {Ks : List DK} {A5 : Option Addr} {ps : List Rv} (h : OutK w B N g n c Ks A5 n5 c5 ps wr) (hb : Below wr.heap.size wr w') : OutK w B N g n c Ks A5 n5 c5 ps w' :=
  ⟨gown_turned h.own (Turned.of_below hb (fun _ => False)) (fun _ _ e => e), bel_to hb h.bel, fun K hK => (h.all K hK).below hb, gown_turned h.ans (Turned.of_below hb (fun _ => False)) (fun _ _ e => e)⟩
theorem ent_empty {M : Nat} {X W : World} {t : TypeId} (hM : M ≤ X.heap.size) (hW : W = X.alloc (.cells #[] t)) : W.ownsRow M t 5 (.slice (some ⟨X.heap.size, 0, none⟩) 0 0) 0 [] := ren_empty hM hW
def XCmp (w : World) (B x N : Nat) (e : Ending) (w' : World) : Prop := ∃ (A5 : Option Addr) (n5 c5 : Nat) (ps : List Rv), e = .returned (.slice A5 n5 c5) ∧ w'.ownsRow w.heap.size 29 2 (.slice A5 n5 c5) n5 (rvC ps) ∧ n5 ≤ N ∧ XLeft w B x (N + 1) w'
set_option maxHeartbeats 4000000 in
theorem xcompact_any {w : World} {B x N n k : Nat} {A : Option Addr} {m s : Int} {Ks : List DK} (h : RXs w B x N A n k m s Ks) (hN : N ≤ 800000) (at_ : Int) :
    Calls Tryz.prog 40 #[.pointer (some ⟨x, 0, none⟩), .int .i64 at_] w (XCmp w B x N) := by
  have HX := kept h
  have HKE := kept (xkeep_any h hN at_)
  have hnN := h.nN
  clear h
  go_enter Tryz.func40, Tryz.ntmps40
  go_wp2_with fail
  with_reducible refine HKE.out.mono ?_
  rintro e w1 ⟨A5, n5, c5, ps5, rfl, hown5, hn5, hb⟩
  have hba : Below w1.heap.size w1 (w1.alloc (.cells #[] 122)) := (Below.refl _ w1).alloc (Nat.le_refl _) _
  have x0 := (HX.out.below (bel_to hba hb)).box.cell 0
  have H0 : Hid (∃ Ks', OutK w B N w1.heap.size 0 0 Ks' A5 n5 c5 ps5 (w1.alloc (.cells #[] 122))) := kept ⟨[], key_empty hb.size rfl, bel_to hba hb, fun K hK => absurd hK (by simp), gown_turned hown5 (Turned.of_below hba (fun _ => False)) (fun _ _ e => e)⟩
  have HN5 := kept hn5
  clear hba hb hown5 hn5 HKE
  go_wp2
  generalize w1.alloc (.cells #[] 122) = W0 at H0 x0 ⊢
  go_loopw [19, 6] (fun i o wr => ∃ (j g no co : Nat), j ≤ n ∧ no ≤ j ∧ i = .int .i64 (j : Int) ∧ o = .slice (some ⟨g, 0, none⟩) no co ∧ Hid (∃ Ks', OutK w B N g no co Ks' A5 n5 c5 ps5 wr)) (fun i _ _ => n - (intOf i).toNat)
  case atStart => exact ⟨0, w1.heap.size, 0, 0, Nat.zero_le _, Nat.le_refl _, rfl, rfl, H0⟩
  case round =>
    obtain ⟨j, g, no, co, hj, hno, rfl, rfl, HI⟩ := hrel
    clear H0 x0
    have hj0 : (0 : Int) ≤ (j : Int) := by omega
    by_cases hjn : j < n
    · have hjn' : (j : Int) < (n : Int) := by omega
      have hwj : wrap64 ((j : Int) + 1) = (j : Int) + 1 := IntWalk.wrap64_in _ ⟨by omega, by omega⟩
      obtain ⟨Ks', hq⟩ := HI.out
      obtain ⟨gk, Ky, hA, hK, k0, k1, hat⟩ := (HX.out.below hq.bel).key hjn
      subst hA
      have hb1 : Below wr.heap.size wr ((wr.alloc (.cells #[.slice Ky.A Ky.n Ky.c, .slice Ky.G Ky.gn Ky.gk] 122)).alloc (.cells #[] 124)) := ((Below.refl _ wr).alloc (Nat.le_refl _) _).alloc (by simp) _
      have hk := (Blk.new wr 122 #[.slice Ky.A Ky.n Ky.c, .slice Ky.G Ky.gn Ky.gk]).alloc (.cells #[] 124)
      have he := ent_empty (M := wr.heap.size) (X := wr.alloc (.cells #[.slice Ky.A Ky.n Ky.c, .slice Ky.G Ky.gn Ky.gk] 122)) (t := 124) (by simp) rfl
      rw [World.size_alloc] at he
      have HE := kept he
      have HAT := kept (hat.below hb1)
      have HQ0 := kept (And.intro hq hat)
      have HK := kept hk
      have HB1 := kept hb1
      have HJ := kept (And.intro hjn hno)
      have hgl : Ky.gn ≤ 800000 := Nat.le_trans hat.gl hN
      have hnob : no ≤ 800000 := by omega
      have c1 := hk.cell 1
      clear hb1 hk he hat hq HI hjn hj hK hno
      go_wp2_with (first | (at_builtin; refine wpList_append_h rfl _ _ 116 rfl 124 rfl rfl Tryz.underlying116 reninfo rfl (by decide) (by decide) HE.out (ys := renC Ky.I) HAT.out.ent.1 (fun h0 => by obtain ⟨g2, e, _, _, _, _, hc⟩ := gown_at HAT.out.ent h0; exact ⟨_, e, fun j u hj => by rw [gadd_at, Nat.zero_add]; exact hc j u hj⟩) (renC_one _) (by omega) HB1.out.size ?_; intro A7 c7 w7 h7 g7; rw [List.nil_append, Nat.zero_add] at h7; (try simp only [Nat.zero_add]); have HP7 := kept h7; have HB7 := kept (bel_grown HB1.out (Nat.le_refl _) HE.out g7); have HQ7 := kept (HQ0.out.1.below HB7.out); have HAT7 := kept (HQ0.out.2.below HB7.out); have HK7 := kept (blk_grown HK.out g7 (fun e => by simp [Value.ownBlock] at e)); have HR7 := kept (show RF (w7.alloc (.cells #[.slice A7 Ky.gn c7] 118)) wr.heap.size w7.heap.size Ky.gn from ⟨A7, c7, Ky.I, Blk.new w7 118 #[.slice A7 Ky.gn c7], gown_turned HP7.out (Turned.of_below ((Below.refl _ w7).alloc (Nat.le_refl _) _) (fun _ => False)) (fun _ _ e => e), renC_len HP7.out, HB7.out.size⟩); clear h7 g7) | (go_at_call 72; (with_reducible refine ((rcompact_any HR7.out (by omega) at_)).mono ?_); rintro e w9 hc; obtain ⟨r1, r2, ok, n9, rfl, hrf, hn9, ht9⟩ := hc; obtain ⟨G9, k9, I9, hbk9, hown9, hI9, _⟩ := hrf; have b9 := hbk9.cell 0; have hbr := turnR_below ht9 (Nat.le_refl _) (bel_to ((Below.refl _ w7).alloc (Nat.le_refl _) (.cells #[.slice A7 Ky.gn c7] 118)) HB7.out) rfl; have hk9 := turnR_blk ht9 (HK7.out.alloc (.cells #[.slice A7 Ky.gn c7] 118)) (by decide) (by decide); have kc0 := hk9.cell 0; have HQ9 := kept (HQ0.out.1.below hbr); have hbx : Below w9.heap.size w9 (w9.alloc (.cells #[.slice Ky.A Ky.n Ky.c, .slice G9 n9 k9] 122)) := (Below.refl _ w9).alloc (Nat.le_refl _) _; have HQ10 := kept (HQ9.out.below hbx); have HBK10 := kept (Blk.new w9 122 #[.slice Ky.A Ky.n Ky.c, .slice G9 n9 k9]); have HND := kept (show DKAt (w9.alloc (.cells #[.slice Ky.A Ky.n Ky.c, .slice G9 n9 k9] 122)) B (N + 1) ⟨Ky.A, Ky.n, Ky.c, Ky.xs, G9, n9, k9, I9⟩ from ⟨gown_turned (HQ0.out.2.below hbr).key (Turned.of_below hbx (fun _ => False)) (fun _ _ e => e), own_mono3 (gown_turned hown9 (Turned.of_below hbx (fun _ => False)) (fun _ _ e => e)) (Nat.le_trans HX.out.le (Nat.le_trans (Nat.le_of_lt HX.out.box.lt) HQ0.out.1.bel.size)), HQ0.out.2.len, Nat.le_trans hn9 (Nat.succ_le_succ HQ0.out.2.gl)⟩); clear hbk9 hown9 hn9 ht9 hbr hk9 hI9 hbx) | (at_builtin; refine wpList_append_h rfl _ _ 48 rfl 122 rfl rfl Tryz.underlying48 keyinfo rfl (by decide) (by decide) HQ10.out.own (ys := [.slice Ky.A Ky.n Ky.c, .slice G9 n9 k9]) rfl (fun _ => ⟨_, rfl, fun j u hj => by rw [gadd_at, Nat.zero_add]; exact (HBK10.out.cell j).trans hj⟩) (by intro u hu; simp only [List.mem_cons, List.not_mem_nil, or_false] at hu; rcases hu with rfl | rfl <;> rfl) (by omega) HQ10.out.bel.size ?_; intro A11 c11 w11 h11 g11; obtain ⟨gg, rfl, _⟩ := gown_at h11 (by omega); have HR : Hid (∃ Ks', OutK w B N gg (no + 1) c11 Ks' A5 n5 c5 ps5 w11) := kept ⟨Ks' ++ [⟨Ky.A, Ky.n, Ky.c, Ky.xs, G9, n9, k9, I9⟩], by rw [kC_append]; exact h11, HQ10.out.bel.grown g11 HQ10.out.bel.size (fun q hq => (gown_lt HQ10.out.own hq).1), fun K hK => (List.mem_append.1 hK).elim (fun e => (HQ10.out.all K e).apart HQ10.out.own g11) (fun e => by rw [List.mem_singleton.1 e]; exact HND.out.apart HQ10.out.own g11), gown_apart HQ10.out.ans HQ10.out.own g11 (by decide)⟩; clear h11 g11))
      · go_roundw
        case rel => exact ⟨j + 1, gg, no + 1, c11, by have := HJ.out; omega, by have := HJ.out; omega, by go_num, rfl, HR⟩
        case measure => have := HJ.out; simp [intOf]; omega
      · go_roundw
        case rel => exact ⟨j + 1, g, no, co, by have := HJ.out; omega, by have := HJ.out; omega, by go_num, rfl, kept ⟨Ks', HQ9.out⟩⟩
        case measure => have := HJ.out; simp [intOf]; omega
    · obtain rfl : j = n := by omega
      obtain ⟨Ks', hq⟩ := HI.out
      have hx := HX.out.below hq.bel
      have x0 := hx.box.cell 0
      have f0 := hx.box.frozen 0
      have hnn : no ≤ N := by omega
      have HQ := kept (And.intro hq (And.intro hx hnn))
      clear hq hx HI
      go_wp2
      go_returns
      obtain ⟨hq, hx, hnn⟩ := HQ.out
      have t : Turned wr (wr.setCell ⟨x, 0, none⟩ (.slice (some ⟨g, 0, none⟩) no co)) (fun q => q = x) := (Turned.refl wr (fun q => q = x)).setCell (p := ⟨x, 0, none⟩) (fun _ => rfl) _
      have hxl := HX.out.box.lt
      have hap : ∀ {g2 : Nat} {c : Array Value} {t : TypeId}, wr.heap[g2]? = some (.cells c t (0, 0)) → t ≠ 50 → g2 ≠ x := fun hc ht => ne_of_types hc (show wr.heap[x]? = some _ from hx.box) ht
      refine ⟨A5, n5, c5, ps5, rfl, gown_turned hq.ans t (fun g2 hg2 e => by have := (gown_lt hq.ans hg2).1; omega), HN5.out, some ⟨g, 0, none⟩, no, co, m, s, Ks', ⟨hx.box.set_ 0 _, own_mono3 (gown_turned hq.own t (fun g2 hg2 e => by have := (gown_lt hq.own hg2).1; omega)) (Nat.le_trans HX.out.le (Nat.le_of_lt hxl)), ?_, fun K hK => ?_, by omega, hx.le⟩, (Turned.of_below hq.bel _).trans t⟩
      · have := hq.own.1
        rw [kC_length] at this
        omega
      · have hd := hq.all K hK
        exact hd.turned t (fun g2 hg2 e => by obtain ⟨c, hc⟩ := gown_cl (k := 0) hd.key hg2; exact hap hc (by decide) e) (fun g2 hg2 e => by obtain ⟨c, hc⟩ := gown_cl (k := 0) hd.ent hg2; exact hap hc (by decide) e)
end Go.Proofs.YtlckeebbjnhejaaGreat
end

section
/-
  The document's own index: SameRevs.
-/
namespace Go.Proofs.YtlckeebbjnhejaaGreat
open Go.ChangeShapes Go.WideShapes Go.ChangeAt Go.RowKit Go.Deep
set_option linter.unusedVariables false
set_option linter.unusedSimpArgs false
set_option maxHeartbeats 2000000 in
/-- SameRevs: are they the same? -/
theorem samerevs_any {w : World} {A B : Option Addr} {n m c d : Nat} {ps qs : List Rv} (h1 : RdR w A n ps) (h2 : RdR w B m qs) (hn : n ≤ 1000000) :
    Calls Tryz.prog 16 #[.slice A n c, .slice B m d] w fun e w' => e = .returned (.bool (decide (ps = qs))) ∧ Below w.heap.size w w' := by
  have H1 := kept h1
  have H2 := kept h2
  have hl1 := h1.1
  have hl2 := h2.1
  clear h1 h2
  by_cases hnm : n = m
  · subst hnm
    have H0 : Hid (Below w.heap.size w w ∧ ∀ i (h : i < ps.length) (h' : i < qs.length), i < 0 → ps[i] = qs[i]) := kept ⟨Below.refl _ _, fun i _ _ h => absurd h (by omega)⟩
    go_enter Tryz.func16, Tryz.ntmps16
    go_wp2
    go_loopw [13] (fun i wr => ∃ (j : Nat), j ≤ n ∧ i = .int .i64 (j : Int) ∧ Hid (Below w.heap.size w wr ∧ ∀ i (h : i < ps.length) (h' : i < qs.length), i < j → ps[i] = qs[i])) (fun i _ => n - (intOf i).toNat)
    case atStart => exact ⟨0, Nat.zero_le _, rfl, H0⟩
    case round =>
      obtain ⟨j, hj, rfl, HI⟩ := hrel
      clear H0
      have hj0 : (0 : Int) ≤ (j : Int) := by omega
      by_cases hjn : j < n
      · have hjn' : (j : Int) < (n : Int) := by omega
        have hwj : wrap64 ((j : Int) + 1) = (j : Int) + 1 := IntWalk.wrap64_in _ ⟨by omega, by omega⟩
        have hp : j < ps.length := by omega
        have hq : j < qs.length := by omega
        obtain ⟨g1, o1, hA, a0, a1⟩ := (H1.out.keeps (Keeps.of_below HI.out.1)).2 j hp
        obtain ⟨g2, o2, hB, b0, b1⟩ := (H2.out.keeps (Keeps.of_below HI.out.1)).2 j hq
        have hne := fun W => neq_rv ps[j] qs[j] W
        have HPQ := kept (And.intro hp hq)
        have HJ := kept hjn
        have HEQ : Hid (∀ (h : j < ps.length) (h' : j < qs.length), decide (ps[j] = qs[j]) = decide (ps[j] = qs[j])) := kept (fun _ _ => rfl)
        have HD : Hid (decide (ps[j] = qs[j]) = true → ps[j] = qs[j]) := kept of_decide_eq_true
        have HND : Hid (decide (ps[j] = qs[j]) = false → ps ≠ qs) := kept (fun h e => by subst e; simp at h)
        subst hA hB
        clear hjn hj HEQ
        have HB5 := fun nq => kept (bel_to ((Turned.refl wr (fun _ => False)).drewN nq).below_ HI.out.1)
        cases hd : decide (ps[j] = qs[j])
        · simp only [hd, Bool.not_false] at hne
          have hne' := HND.out hd
          clear hd HD HND
          go_wp2
          go_quiet (fail)
          have HR := HB5 nq
          clear HB5
          generalize wr.drewN nq = W3 at HR ⊢
          go_wp2
          go_returns
          exact ⟨by rw [decide_eq_false hne']; rfl, HR.out⟩
        · simp only [hd, Bool.not_true] at hne
          have he := HD.out hd
          clear hd HD HND
          have HE2 : Hid (∀ i (h : i < ps.length) (h' : i < qs.length), i < j + 1 → ps[i] = qs[i]) := kept (fun i h h' hi => by
            rcases Nat.lt_or_eq_of_le (Nat.le_of_lt_succ hi) with h1 | rfl
            · exact HI.out.2 i h h' h1
            · exact he)
          clear he
          go_wp2
          go_quiet (fail)
          have HR := HB5 nq
          clear HB5
          generalize wr.drewN nq = W3 at HR ⊢
          go_wp2
          go_roundw
          case rel => exact ⟨j + 1, by have := HJ.out; omega, by go_num, kept ⟨HR.out, HE2.out⟩⟩
          case measure => have := HJ.out; simp [intOf]; omega
      · obtain rfl : j = n := by omega
        go_wp2
        go_returns
        refine ⟨?_, HI.out.1⟩
        have : ps = qs := List.ext_getElem (by omega) (fun i h h' => HI.out.2 i h h' (by omega))
        rw [decide_eq_true this]; rfl
  · have hne : ((n : Int) != (m : Int)) = true := by simp; omega
    have hpq : ps ≠ qs := fun e => hnm (by rw [← hl1, ← hl2, e])
    go_enter Tryz.func16, Tryz.ntmps16
    go_wp2
    go_returns
    exact ⟨by rw [decide_eq_false hpq]; rfl, Below.refl _ _⟩
end Go.Proofs.YtlckeebbjnhejaaGreat
end
