/-
  Texts laid together: Ja Jb Jc Jd Je Jf.
-/
import Derived.Test.YtlckeebbjnhejaaGreatBGz
import Derived.Test.YtlckeebbjnhejaaGreatBGx
import Derived.Test.YtlckeebbjnhejaaGreatBBase
import Derived.Test.YtlckeebbjnhejaaGreatBCmp
import Derived.Test.YtlckeebbjnhejaaGreatBHnd
import Derived.Test.YtlckeebbjnhejaaGreatBDown
import Derived.BigQuiet
section
/-
  The document's own index, as far as a law that doesn't look at its answers wants it: where it lies; a key's place in it.
-/
namespace Go.Proofs.YtlckeebbjnhejaaGreat
open Go.ChangeShapes Go.WideShapes Go.ChangeAt Go.RowKit Go.Deep
set_option linter.unusedVariables false
set_option linter.unusedSimpArgs false

/-- A key of the document's index: its bytes, its entries, and where both lie. -/
structure DK where
  A : Option Addr
  n : Nat
  c : Nat
  xs : List UInt8
  G : Option Addr
  gn : Nat
  gk : Nat
  I : List En5
def DK.cells (K : DK) : List Value := [.slice K.A K.n K.c, .slice K.G K.gn K.gk]
def kC (Ks : List DK) : List Value := Ks.flatMap DK.cells
theorem kC_append (a b : List DK) : kC (a ++ b) = kC a ++ kC b := by simp [kC]
theorem kC_length : ∀ Ks : List DK, (kC Ks).length = Ks.length * 2
  | [] => rfl
  | p :: es => by
    have := kC_length es
    unfold kC at this ⊢
    rw [List.flatMap_cons, List.length_append, this]
    simp [DK.cells]; omega
theorem kC_at : ∀ (Ks : List DK) (i : Nat) (h : i < Ks.length), (kC Ks)[i * 2]? = some (.slice Ks[i].A Ks[i].n Ks[i].c) ∧ (kC Ks)[i * 2 + 1]? = some (.slice Ks[i].G Ks[i].gn Ks[i].gk)
  | p :: es, 0, _ => ⟨rfl, rfl⟩
  | p :: es, i + 1, h => by
    have := kC_at es i (by simpa using h)
    have e : kC (p :: es) = .slice p.A p.n p.c :: .slice p.G p.gn p.gk :: kC es := rfl
    rw [e, show (i + 1) * 2 = i * 2 + 1 + 1 by omega]
    simpa using this
theorem kC_drop (Ks : List DK) : ∀ k, (kC Ks).drop (k * 2) = kC (Ks.drop k) := by
  induction Ks with
  | nil => intro k; simp [kC]
  | cons p ps ih =>
    intro k
    cases k with
    | zero => simp
    | succ k =>
      have e : kC (p :: ps) = .slice p.A p.n p.c :: .slice p.G p.gn p.gk :: kC ps := rfl
      rw [e, show (k + 1) * 2 = k * 2 + 1 + 1 by omega]
      simpa using ih k
theorem kC_take (Ks : List DK) : ∀ k, (kC Ks).take (k * 2) = kC (Ks.take k) := by
  induction Ks with
  | nil => intro k; simp [kC]
  | cons p ps ih =>
    intro k
    cases k with
    | zero => simp [kC]
    | succ k =>
      have e : kC (p :: ps) = .slice p.A p.n p.c :: .slice p.G p.gn p.gk :: kC ps := rfl
      have e2 : kC (p :: ps.take k) = .slice p.A p.n p.c :: .slice p.G p.gn p.gk :: kC (ps.take k) := rfl
      rw [e, List.take_succ_cons, e2, show (k + 1) * 2 = k * 2 + 1 + 1 by omega]
      simpa using ih k
theorem kC_one (Ks : List DK) : ∀ u ∈ kC Ks, u.oneCell' = true := by
  intro u hu
  obtain ⟨L, _, hp⟩ := List.mem_flatMap.1 hu
  simp only [DK.cells, List.mem_cons, List.not_mem_nil, or_false] at hp
  rcases hp with rfl | rfl <;> rfl
/-- One key, as it lies from block B on: at most 1,000 bytes and N entries. -/
structure DKAt (w : World) (B N : Nat) (K : DK) : Prop where
  key : w.ownsRow B 5 1 (.slice K.A K.n K.c) K.n (cellsOf K.xs)
  ent : w.ownsRow B 124 5 (.slice K.G K.gn K.gk) K.gn (renC K.I)
  len : K.n ≤ 1000
  gl : K.gn ≤ N
/-- Types of the document's own index. -/
def OfX (t : TypeId) : Prop := t = 50 ∨ t = 122 ∨ t = 124 ∨ t = 5
/-- What turns nothing of them. -/
def NoX (w : World) (T : Nat → Prop) : Prop := ∀ j, T j → ∀ c t f, w.heap[j]? = some (.cells c t f) → ¬ OfX t
theorem DKAt.turned {w w' : World} {B N : Nat} {K : DK} (h : DKAt w B N K) {T : Nat → Prop} (t : Turned w w' T) (hk : ∀ g, (Value.slice K.A K.n K.c).ownBlock = some g → ¬ T g) (he : ∀ g, (Value.slice K.G K.gn K.gk).ownBlock = some g → ¬ T g) : DKAt w' B N K :=
  ⟨gown_turned h.key t hk, gown_turned h.ent t he, h.len, h.gl⟩
theorem DKAt.mono {w : World} {B N N' : Nat} {K : DK} (h : DKAt w B N K) (hN : N ≤ N') : DKAt w B N' K := ⟨h.key, h.ent, h.len, Nat.le_trans h.gl hN⟩
/-- The document's index in block x: n keys, all from block B on. -/
structure RXs (w : World) (B x N : Nat) (A : Option Addr) (n k : Nat) (m s : Int) (Ks : List DK) : Prop where
  box : Blk w x 50 [.slice A n k, .int .i64 m, .int .i64 s]
  row : w.ownsRow B 122 2 (.slice A n k) n (kC Ks)
  ln : Ks.length = n
  all : ∀ K ∈ Ks, DKAt w B N K
  nN : n ≤ N
  le : B ≤ x
theorem RXs.turned {w w' : World} {B x N n k : Nat} {A : Option Addr} {m s : Int} {Ks : List DK} (h : RXs w B x N A n k m s Ks) {T : Nat → Prop} (t : Turned w w' T) (hT : NoX w T) : RXs w' B x N A n k m s Ks := by
  refine ⟨t.blk h.box (fun e => hT x e _ _ _ h.box (.inl rfl)), gown_turned h.row t (fun g hg e => ?_), h.ln, fun K hK => (h.all K hK).turned t (fun g hg e => ?_) (fun g hg e => ?_), h.nN, h.le⟩
  · obtain ⟨c, hc⟩ := gown_cl (k := 0) h.row hg
    exact hT g e _ _ _ hc (.inr (.inl rfl))
  · obtain ⟨c, hc⟩ := gown_cl (k := 0) (h.all K hK).key hg
    exact hT g e _ _ _ hc (.inr (.inr (.inr rfl)))
  · obtain ⟨c, hc⟩ := gown_cl (k := 0) (h.all K hK).ent hg
    exact hT g e _ _ _ hc (.inr (.inr (.inl rfl)))
theorem RXs.below {w w' : World} {B x N n k : Nat} {A : Option Addr} {m s : Int} {Ks : List DK} (h : RXs w B x N A n k m s Ks) (hb : Below w.heap.size w w') : RXs w' B x N A n k m s Ks :=
  h.turned (Turned.of_below hb (fun _ => False)) (fun _ e => e.elim)
/-- Key i, as it lies. -/
theorem RXs.key {w : World} {B x N n k : Nat} {A : Option Addr} {m s : Int} {Ks : List DK} (h : RXs w B x N A n k m s Ks) {i : Nat} (hi : i < n) : ∃ g K, A = some ⟨g, 0, none⟩ ∧ K ∈ Ks ∧ w.cell? ⟨g, i * 2, none⟩ = some (.slice K.A K.n K.c) ∧ w.cell? ⟨g, i * 2 + 1, none⟩ = some (.slice K.G K.gn K.gk) ∧ DKAt w B N K := by
  obtain ⟨g, rfl, _, _, _, _, hc⟩ := gown_at h.row (by omega)
  have hl : i < Ks.length := by rw [h.ln]; exact hi
  obtain ⟨h0, h1⟩ := kC_at Ks i hl
  exact ⟨g, Ks[i], rfl, List.getElem_mem _, hc _ _ h0, hc _ _ h1, h.all _ (List.getElem_mem _)⟩
set_option maxHeartbeats 2000000 in
/-- at: where a key stands, or would. -/
theorem xat_any {w : World} {B x N n k : Nat} {A : Option Addr} {m s : Int} {Ks : List DK} (h : RXs w B x N A n k m s Ks) (hN : N ≤ 1000000) (A1 : Option Addr) (n1 c1 : Nat) (ys : List UInt8) (hr : Rd w A1 n1 ys) (hn1 : n1 ≤ 1000) :
    Calls Tryz.prog 100 #[.pointer (some ⟨x, 0, none⟩), .slice A1 n1 c1] w fun e w' => ∃ (i : Nat) (t : Bool), e = .returned (.tuple #[.int .i64 i, .bool t]) ∧ i ≤ n ∧ (t = true → i < n) ∧ Below w.heap.size w w' := by
  have HX := kept h
  have HR := kept hr
  have hn : n ≤ 1000000 := Nat.le_trans h.nN hN
  clear h hr hN
  have H0 : Hid (Below w.heap.size w w) := kept (Below.refl _ _)
  go_enter Tryz.func100, Tryz.ntmps100
  go_wp2
  go_loopw [6] (fun i wr => ∃ (j : Nat), j ≤ n ∧ i = .int .i64 (j : Int) ∧ Hid (Below w.heap.size w wr)) (fun i _ => n - (intOf i).toNat)
  case atStart => exact ⟨0, Nat.zero_le _, rfl, H0⟩
  case round =>
    obtain ⟨j, hj, rfl, HI⟩ := hrel
    clear H0
    have hx := HX.out.below HI.out
    have b0 := hx.box.cell 0
    have hj0 : (0 : Int) ≤ (j : Int) := by omega
    by_cases hjn : j < n
    · obtain ⟨g, K, hA, hK, k0, k1, hat⟩ := hx.key hjn
      subst hA
      have hjn' : (j : Int) < (n : Int) := by omega
      have hwj : wrap64 ((j : Int) + 1) = (j : Int) + 1 := IntWalk.wrap64_in _ ⟨by omega, by omega⟩
      have HAH : Hid (Calls Tryz.prog 19 #[.slice K.A K.n K.c, .slice A1 n1 c1] wr fun e w' => ∃ b, e = .returned (.bool b) ∧ Below wr.heap.size wr w') := kept ((ahead_any _ _ _ _ K.c c1 _ _ wr (Rd.of_own hat.key) (HR.out.keeps (Keeps.of_below HI.out)) (by have := hat.len; omega) (by omega)).mono fun e w' ⟨he, hq⟩ => ⟨_, he, by obtain ⟨q, rfl⟩ := hq.out; exact ((Turned.refl wr (fun _ => False)).drewN q).below_⟩)
      have HSA := fun W (hb : Below wr.heap.size wr W) => kept (same_any _ _ _ _ K.c c1 _ _ W ((Rd.of_own hat.key).keeps (Keeps.of_below hb)) ((HR.out.keeps (Keeps.of_below HI.out)).keeps (Keeps.of_below hb)) _ rfl)
      have HJ := kept hjn
      have HKB := fun W (hb : Below wr.heap.size wr W) => kept (And.intro ((Keeps.of_below hb).cell_ k0) ((Keeps.of_below hb).cell_ b0))
      clear hjn hj hx k1 hat hK
      go_wp2_with fail
      with_reducible refine HAH.out.mono ?_
      rintro e w1 ⟨b, rfl, hb⟩
      have HB1 := kept hb
      obtain ⟨k0, b0⟩ := (HKB w1 hb).out
      cases b
      · have HB2 := kept (bel_to hb HI.out)
        have HSA1 := HSA w1 hb
        generalize decide (K.xs = ys) = t at HSA1
        clear hb HSA HAH HKB
        go_wp2_with fail
        with_reducible refine HSA1.out.mono ?_
        rintro e w2 ⟨rfl, rfl⟩
        go_wp2
        go_returns
        exact ⟨j, t, rfl, Nat.le_of_lt HJ.out, fun _ => HJ.out, HB2.out⟩
      · have HB2 := kept (bel_to hb HI.out)
        clear hb HSA HAH HKB
        go_wp2
        go_roundw
        case rel => exact ⟨j + 1, by have := HJ.out; omega, by go_num, HB2⟩
        case measure => have := HJ.out; simp [intOf]; omega
    · obtain rfl : j = n := by omega
      clear hx
      go_wp2
      go_returns
      exact ⟨j, false, rfl, Nat.le_refl _, (fun h => by cases h), HI.out⟩
end Go.Proofs.YtlckeebbjnhejaaGreat
end

section
/-
  The document's own index: a key's history, apart.
-/
namespace Go.Proofs.YtlckeebbjnhejaaGreat
open Go.ChangeShapes Go.WideShapes Go.ChangeAt Go.RowKit Go.Deep
set_option linter.unusedVariables false
set_option linter.unusedSimpArgs false

/-- What of answers: a history of its own memory, of at most N entries. -/
def XOf (w : World) (N : Nat) (e : Ending) (w' : World) : Prop := ∃ (G : Option Addr) (gn gk : Nat) (I : List En5), e = .returned (.agg #[.slice G gn gk]) ∧ w'.ownsRow w.heap.size 124 5 (.slice G gn gk) gn (renC I) ∧ gn ≤ N ∧ Below w.heap.size w w'
set_option maxHeartbeats 2000000 in
theorem xof_any {w : World} {B x N n k : Nat} {A : Option Addr} {m s : Int} {Ks : List DK} (h : RXs w B x N A n k m s Ks) (hN : N ≤ 1000000) (A1 : Option Addr) (n1 c1 : Nat) (ys : List UInt8) (hr : Rd w A1 n1 ys) (hn1 : n1 ≤ 1000) :
    Calls Tryz.prog 66 #[.pointer (some ⟨x, 0, none⟩), .slice A1 n1 c1] w (XOf w N) := by
  have hb0 : Below w.heap.size w ((w.alloc (.cells #[.slice none 0 0] 118)).alloc (.cells #[.slice none 0 0] 118)) := ((Below.refl _ w).alloc (Nat.le_refl _) _).alloc (by simp) _
  have HK4 := kept ((Blk.new w 118 #[.slice none 0 0]).alloc (.cells #[.slice none 0 0] 118))
  have HK5 := kept (Blk.new (w.alloc (.cells #[.slice none 0 0] 118)) 118 #[.slice none 0 0])
  rw [World.size_alloc] at HK5
  have HX := kept (h.below hb0)
  have HAT := kept (xat_any (h.below hb0) hN A1 n1 c1 ys (hr.keeps (Keeps.of_below hb0)) hn1)
  have HB := kept hb0
  clear hb0 h hr
  go_enter Tryz.func66, Tryz.ntmps66
  go_wp2_with fail
  generalize (w.alloc (.cells #[.slice none 0 0] 118)).alloc (.cells #[.slice none 0 0] 118) = W0 at HK4 HK5 HX HAT HB ⊢
  with_reducible refine HAT.out.mono ?_
  rintro e w1 ⟨i, t, rfl, hin, ht, hb⟩
  have HX1 := kept (HX.out.below hb)
  have HB1 := kept (bel_to hb HB.out)
  have HK41 := kept (HK4.out.below hb HK4.out.lt)
  have HK51 := kept (HK5.out.below hb HK5.out.lt)
  clear hb HX HAT HB HK4 HK5
  cases t
  · have c5 := HK51.out.cell 0
    have f4 := HK41.out.frozen 0
    have c4 := HK41.out.cell 0
    have HT := kept (bel_left HB1.out (Turned.setCell (Turned.refl w1 (fun j => j = w.heap.size)) (p := ⟨w.heap.size, 0, none⟩) (fun _ => rfl) (.slice none 0 0)) (fun j e => by omega))
    have hc4 : (w1.setCell ⟨w.heap.size, 0, none⟩ (.slice none 0 0)).cell? ⟨w.heap.size, 0, none⟩ = some (.slice none 0 0) := (HK41.out.set_ 0 _).cell 0
    go_wp2
    exact bodyPost_ret (v := .agg #[.slice none 0 0]) (by simp [results, Tryz.results66, go_sem, hc4]) rfl ⟨none, 0, 0, [], rfl, World.ownsRow_nil _ _ _ _, Nat.zero_le _, HT.out⟩
  · have hi := ht rfl
    obtain ⟨g, Ky, hA, hK, k0, k1, hat⟩ := HX1.out.key hi
    subst hA
    have hbe : Below w1.heap.size w1 w1.drew := (Below.refl _ _).drew
    have HS0 := kept (show (fun W' : World => W'.cell? ⟨w.heap.size + 1, 0, none⟩ = some (.slice none 0 0) ∧ W'.cell? ⟨x, 0, none⟩ = some (.slice (some ⟨g, 0, none⟩) n k) ∧ W'.cell? ⟨g, i * 2 + 1, none⟩ = some (.slice Ky.G Ky.gn Ky.gk)) w1.drew from ⟨(HK51.out.below hbe HK51.out.lt).cell 0, (HX1.out.below hbe).box.cell 0, (Keeps.of_below hbe).cell_ k1⟩)
    have hi0 : (0 : Int) ≤ (i : Int) := by omega
    have hin' : (i : Int) < (n : Int) := by omega
    have HE := kept (gown_turned hat.ent (Turned.of_below hbe (fun _ => False)) (fun _ _ e => e))
    have HGL := kept (And.intro hat.gl hN)
    have HK5D := kept (HK51.out.below hbe HK51.out.lt)
    have HK4D := kept (HK41.out.below hbe HK41.out.lt)
    have HBW := kept (bel_to hbe HB1.out)
    have HZ := kept (Below.refl w1.drew.heap.size w1.drew)
    have HON := kept (World.ownsRow_nil w1.drew w1.drew.heap.size 124 5)
    clear hbe k0 k1 hat hK HB1 HK51 HK41 HX1 ht hin
    go_wp2
    refine region_L [13] ((fun W' => W'.cell? ⟨w.heap.size + 1, 0, none⟩ = some (.slice none 0 0) ∧ W'.cell? ⟨x, 0, none⟩ = some (.slice (some ⟨g, 0, none⟩) n k) ∧ W'.cell? ⟨g, i * 2 + 1, none⟩ = some (.slice Ky.G Ky.gn Ky.gk))) (by kernel_rfl) ?_ (fun hHeld => ?_)
    · ((try dsimp only); (first | with_reducible exact HS0.out | with_reducible exact HS.out))
    (try simp only [List.size_toArray, List.length_cons, List.length_nil, Nat.reduceAdd, Array.replicate_succ, Array.replicate_zero, List.push_toArray, List.append_toArray, List.nil_append, List.cons_append])
    refine take_P 0 (some 16) ?_ (by (intro o ho w; (simp only [List.getElem?_toArray, List.getElem?_cons_succ, List.getElem?_cons_zero, Option.some.injEq] at ho); subst ho; go_simp; (first | done | with_reducible rfl))) (by ((try simp only [Act.put, hA, h0, h1]); (first | done | rfl))) (by first | exact fun _ => by assumption | exact fun hE => absurd hE (by decide))
    (try simp only [Act.put, List.setIfInBounds_toArray, List.set_cons_zero, List.set_cons_succ])
    refine take_L 1 (some 17) ?_ (by (intro o ho w hSw; (simp only [List.getElem?_toArray, List.getElem?_cons_succ, List.getElem?_cons_zero, Option.some.injEq] at ho); subst ho; (try dsimp only at hSw); go_simp; (first | done | with_reducible rfl))) (by ((try simp only [Act.put, hA, h0, h1]); (first | done | rfl)))
    (try simp only [Act.put, List.setIfInBounds_toArray, List.set_cons_zero, List.set_cons_succ])
    refine take_P 2 (some 18) ?_ (by (intro o ho w; (simp only [List.getElem?_toArray, List.getElem?_cons_succ, List.getElem?_cons_zero, Option.some.injEq] at ho); subst ho; go_simp; (first | done | with_reducible rfl))) (by ((try simp only [Act.put, hA, h0, h1]); (first | done | rfl))) (by first | exact fun _ => by assumption | exact fun hE => absurd hE (by decide))
    (try simp only [Act.put, List.setIfInBounds_toArray, List.set_cons_zero, List.set_cons_succ])
    refine take_P 3 (some 19) ?_ (by (intro o ho w; (simp only [List.getElem?_toArray, List.getElem?_cons_succ, List.getElem?_cons_zero, Option.some.injEq] at ho); subst ho; go_simp; (first | done | with_reducible rfl))) (by ((try simp only [Act.put, hA, h0, h1]); (first | done | rfl))) (by first | exact fun _ => by assumption | exact fun hE => absurd hE (by decide))
    (try simp only [Act.put, List.setIfInBounds_toArray, List.set_cons_zero, List.set_cons_succ])
    refine take_P 4 (some 20) ?_ (by (intro o ho w; (simp only [List.getElem?_toArray, List.getElem?_cons_succ, List.getElem?_cons_zero, Option.some.injEq] at ho); subst ho; go_simp; (first | done | with_reducible rfl))) (by ((try simp only [Act.put, hA, h0, h1]); (first | done | rfl))) (by first | exact fun _ => by assumption | exact fun hE => absurd hE (by decide))
    (try simp only [Act.put, List.setIfInBounds_toArray, List.set_cons_zero, List.set_cons_succ])
    refine take_L 5 (some 21) ?_ (by (intro o ho w hSw; (simp only [List.getElem?_toArray, List.getElem?_cons_succ, List.getElem?_cons_zero, Option.some.injEq] at ho); subst ho; (try dsimp only at hSw); go_simp; (first | done | with_reducible rfl))) (by ((try simp only [Act.put, hA, h0, h1]); (first | done | rfl)))
    (try simp only [Act.put, List.setIfInBounds_toArray, List.set_cons_zero, List.set_cons_succ])
    refine take_P 6 (some 22) ?_ (by (intro o ho w; (simp only [List.getElem?_toArray, List.getElem?_cons_succ, List.getElem?_cons_zero, Option.some.injEq] at ho); subst ho; go_simp; (first | done | with_reducible rfl))) (by ((try simp only [Act.put, hA, h0, h1]); (first | done | rfl))) (by first | exact fun _ => by assumption | exact fun hE => absurd hE (by decide))
    (try simp only [Act.put, List.setIfInBounds_toArray, List.set_cons_zero, List.set_cons_succ])
    refine take_P 7 (some 23) ?_ (by (intro o ho w; (simp only [List.getElem?_toArray, List.getElem?_cons_succ, List.getElem?_cons_zero, Option.some.injEq] at ho); subst ho; go_simp; (first | done | with_reducible rfl))) (by ((try simp only [Act.put, hA, h0, h1]); (first | done | rfl))) (by first | exact fun _ => by assumption | exact fun hE => absurd hE (by decide))
    (try simp only [Act.put, List.setIfInBounds_toArray, List.set_cons_zero, List.set_cons_succ])
    refine take_P 8 (some 24) ?_ (by (intro o ho w; (simp only [List.getElem?_toArray, List.getElem?_cons_succ, List.getElem?_cons_zero, Option.some.injEq] at ho); subst ho; go_simp; (first | done | with_reducible rfl))) (by ((try simp only [Act.put, hA, h0, h1]); (first | done | rfl))) (by first | exact fun _ => by assumption | exact fun hE => absurd hE (by decide))
    (try simp only [Act.put, List.setIfInBounds_toArray, List.set_cons_zero, List.set_cons_succ])
    refine take_P 9 (some 25) ?_ (by (intro o ho w; (simp only [List.getElem?_toArray, List.getElem?_cons_succ, List.getElem?_cons_zero, Option.some.injEq] at ho); subst ho; go_simp; (first | done | with_reducible rfl))) (by ((try simp only [Act.put, hA, h0, h1]); (first | done | rfl))) (by first | exact fun _ => by assumption | exact fun hE => absurd hE (by decide))
    (try simp only [Act.put, List.setIfInBounds_toArray, List.set_cons_zero, List.set_cons_succ])
    refine take_L 10 (some 26) ?_ (by (intro o ho w hSw; (simp only [List.getElem?_toArray, List.getElem?_cons_succ, List.getElem?_cons_zero, Option.some.injEq] at ho); subst ho; (try dsimp only at hSw); go_simp; (first | done | with_reducible rfl))) (by ((try simp only [Act.put, hA, h0, h1]); (first | done | rfl)))
    (try simp only [Act.put, List.setIfInBounds_toArray, List.set_cons_zero, List.set_cons_succ])
    refine ready_L 11 (fun o ho K hK => ?_)
    (simp only [List.getElem?_toArray, List.getElem?_cons_succ, List.getElem?_cons_zero, Option.some.injEq] at ho)
    subst ho
    (refine wp_append_h (.tmp 17) (.tmp 26) 116 rfl 124 rfl rfl Tryz.underlying116 reninfo rfl (by decide) (by decide) HON.out (ys := renC Ky.I) HE.out.1 (fun h0 => by obtain ⟨g2, e, _, _, _, _, hc⟩ := gown_at HE.out h0; exact ⟨_, e, fun j u hj => by rw [gadd_at, Nat.zero_add]; exact hc j u hj⟩) (renC_one _) (by have := HGL.out; omega) (Nat.le_refl _) ?_; intro A11 c11 w11 h11 g11; rw [Nat.zero_add, List.nil_append] at h11; (try simp only [Nat.zero_add]); have HP := kept h11; replace HZ := kept (bel_grown HZ.out (Nat.le_refl _) HON.out g11); (have HS := kept (show (fun W' : World => W'.cell? ⟨w.heap.size + 1, 0, none⟩ = some (.slice none 0 0) ∧ W'.cell? ⟨x, 0, none⟩ = some (.slice (some ⟨g, 0, none⟩) n k) ∧ W'.cell? ⟨g, i * 2 + 1, none⟩ = some (.slice Ky.G Ky.gn Ky.gk)) w11 from ⟨(Keeps.of_below HZ.out).cell_ HS0.out.1, (Keeps.of_below HZ.out).cell_ HS0.out.2.1, (Keeps.of_below HZ.out).cell_ HS0.out.2.2⟩)); (have hb11 := HS.out.1); (have f11 := (HK5D.out.below HZ.out HK5D.out.lt).frozen 0); clear h11 g11)
    refine hK.out _ _ ?_ (fun hHeld => ?_)
    · (first | exact fun hE => absurd hE (by decide) | (intro _; (try dsimp only); (first | with_reducible exact HS0.out | with_reducible exact HS.out)))
    clear hK K
    (try replace hHeld := hHeld (by decide))
    (try simp only [Act.put, List.setIfInBounds_toArray, List.set_cons_zero, List.set_cons_succ])
    refine take_P 12 (some 28) ?_ (by (intro o ho w; (simp only [List.getElem?_toArray, List.getElem?_cons_succ, List.getElem?_cons_zero, Option.some.injEq] at ho); subst ho; go_simp; (first | done | with_reducible rfl))) (by ((try simp only [Act.put, hA, h0, h1]); (first | done | rfl))) (by first | exact fun _ => by assumption | exact fun hE => absurd hE (by decide))
    (try simp only [Act.put, List.setIfInBounds_toArray, List.set_cons_zero, List.set_cons_succ])
    refine ready_L 13 (fun o ho K hK => ?_)
    (simp only [List.getElem?_toArray, List.getElem?_cons_succ, List.getElem?_cons_zero, Option.some.injEq] at ho)
    subst ho
    go_simp
    skip
    refine hK.out _ _ ?_ (fun hHeld => ?_)
    · (first | exact fun hE => absurd hE (by decide) | (intro _; (try dsimp only); (first | with_reducible exact HS0.out | with_reducible exact HS.out)))
    clear hK K
    (try replace hHeld := hHeld (by decide))
    (try simp only [Act.put, List.setIfInBounds_toArray, List.set_cons_zero, List.set_cons_succ])
    refine done_L (by kernel_rfl) ?_ _
    have hk5 := (HK5D.out.below HZ.out HK5D.out.lt).set_ 0 (.slice A11 Ky.gn c11)
    have hk4 := (HK4D.out.below HZ.out HK4D.out.lt).far (p := ⟨w.heap.size + 1, 0, none⟩) (by simp) (.slice A11 Ky.gn c11)
    have htt : Turned w11 (w11.setCell ⟨w.heap.size + 1, 0, none⟩ (.slice A11 Ky.gn c11)) (fun j => j = w.heap.size + 1) := (Turned.refl w11 (fun j => j = w.heap.size + 1)).setCell (p := ⟨w.heap.size + 1, 0, none⟩) (fun _ => rfl) _
    have hown := gown_turned HP.out htt (fun j hj e => by have := (gown_lt HP.out hj).1; have := HK5D.out.lt; omega)
    have hbl := bel_left (bel_to HZ.out HBW.out) htt (fun j e => by omega)
    have ht4 : Turned (w11.setCell ⟨w.heap.size + 1, 0, none⟩ (.slice A11 Ky.gn c11)) ((w11.setCell ⟨w.heap.size + 1, 0, none⟩ (.slice A11 Ky.gn c11)).setCell ⟨w.heap.size, 0, none⟩ (.slice A11 Ky.gn c11)) (fun j => j = w.heap.size) := (Turned.refl _ (fun j => j = w.heap.size)).setCell (p := ⟨w.heap.size, 0, none⟩) (fun _ => rfl) _
    have hc4 := (hk4.set_ 0 (.slice A11 Ky.gn c11)).cell 0
    have HFIN := kept (And.intro (gown_turned hown ht4 (fun j hj e => by have := (gown_lt hown hj).1; have := HK4D.out.lt; omega)) (bel_left hbl ht4 (fun j e => by omega)))
    have c4 := (HK4D.out.below HZ.out HK4D.out.lt).cell 0
    have f4 := (HK4D.out.below HZ.out HK4D.out.lt).frozen 0
    have HC4 := kept hc4
    clear hk5 hk4 htt hown hbl ht4 HS hc4
    go_wp2
    have hc4 := HC4.out
    exact bodyPost_ret (v := .agg #[.slice A11 Ky.gn c11]) (by simp [results, Tryz.results66, go_sem, hc4]) rfl ⟨A11, Ky.gn, c11, Ky.I, rfl, own_mono3 HFIN.out.1 (by have := HBW.out.size; exact this), HGL.out.1, HFIN.out.2⟩
end Go.Proofs.YtlckeebbjnhejaaGreat
end

section
/-
  The document's own index: what comes of a change (set).
-/
namespace Go.Proofs.YtlckeebbjnhejaaGreat
open Go.ChangeShapes Go.WideShapes Go.ChangeAt Go.RowKit Go.Deep
set_option linter.unusedVariables false
set_option linter.unusedSimpArgs false

theorem keyinfo : (Tryz.prog.info? 122).map (fun i => (i.zero, i.size, i.bytes)) = some (some (.agg #[.slice none 0 0, .slice none 0 0]), 2, 48) := by kernel_rfl
theorem key_empty {M : Nat} {X W : World} {t : TypeId} (hM : M ≤ X.heap.size) (hW : W = X.alloc (.cells #[] t)) : W.ownsRow M t 2 (.slice (some ⟨X.heap.size, 0, none⟩) 0 0) 0 [] := by
  subst hW
  exact ⟨rfl, .inr ⟨X.heap.size, 0, #[], rfl, hM, Blk.new X t #[], Nat.le_refl _, Nat.zero_le _, rfl, rfl⟩⟩
theorem wpList_append_h {P : Program} {w : World} {ops : Array Oper} {rest : List Oper} {o : Oper} {a : Act} {Q : Exit → Act → World → Prop} (hgd : o.guard = none) (s x : Operand) (t : TypeId) (ho : o.op = .call { callee := .builtin .append, args := #[s, x], argTypes := #[t, t] }) (e : TypeId) {z : Value} {sz bytes : Nat} {base n c : Nat} {xs : List Value} {A B : Option Addr} {m k : Nat} {ys : List Value}
    (hs : a.eval s = .slice A n c) (hx : a.eval x = .slice B m k) (ht : P.underlying t = some (.slice e)) (hinfo : (P.info? e).map (fun i => (i.zero, i.size, i.bytes)) = some (some z, sz, bytes)) (hzs : z.cells.size = sz) (h0s : 0 < sz) (hb : bytes ≤ 1000)
    (hown : w.ownsRow base e sz (.slice A n c) n xs) (hl : ys.length = m * sz) (hsrc : 0 < m → ∃ ad, B = some ad ∧ ∀ j u, ys[j]? = some u → w.cell? (ad.add j) = some u) (h1 : ∀ u ∈ ys, u.oneCell' = true) (hm : n + m ≤ 3000000) (hbase : base ≤ w.heap.size)
    (h : ∀ A' c' w', w'.ownsRow base e sz (.slice A' (n + m) c') (n + m) (xs ++ ys) → w.grownBy w' (Value.slice A n c).ownBlock → wpList P ops Q rest (a.put o.dst (.slice A' (n + m) c')) w') : wpList P ops Q (o :: rest) a w :=
  wpList_plain hgd fun _ hK => wp_append_h s x t ho e hs hx ht hinfo hzs h0s hb hown hl hsrc h1 hm hbase fun A' c' w' a1 a2 => hK _ _ (h A' c' w' a1 a2)
theorem gown_apart {w w' : World} {b1 s1 n1 k1 b2 s2 n2 k2 : Nat} {e1 e2 : TypeId} {A1 A2 : Option Addr} {xs1 xs2 : List Value} (h : w.ownsRow b1 e1 s1 (.slice A1 n1 k1) n1 xs1) (h2 : w.ownsRow b2 e2 s2 (.slice A2 n2 k2) n2 xs2) (g : w.grownBy w' (Value.slice A2 n2 k2).ownBlock) (he : e1 ≠ e2) : w'.ownsRow b1 e1 s1 (.slice A1 n1 k1) n1 xs1 :=
  gown_turned h (Turned.of_grown g (T := fun j => (Value.slice A2 n2 k2).ownBlock = some j) (fun j e => e)) (fun j hj e => by
    obtain ⟨c1, hc1⟩ := gown_cl (k := 0) h hj
    obtain ⟨c2, hc2⟩ := gown_cl (k := 0) h2 e
    exact ne_of_types hc1 hc2 he rfl)
/-- What a change leaves of the document's index: at most one key and one entry more; nothing but its own block has turned. -/
def XLeft (w : World) (B x N : Nat) (w' : World) : Prop := ∃ A n k m s Ks, RXs w' B x N A n k m s Ks ∧ Turned w w' (fun j => j = x)
def XChg (w : World) (B x N : Nat) (e : Ending) (w' : World) : Prop := ∃ er : Int, e = .returned (.int .i64 er) ∧ XLeft w B x (N + 1) w'
theorem RXs.mono {w : World} {B x N N' n k : Nat} {A : Option Addr} {m s : Int} {Ks : List DK} (h : RXs w B x N A n k m s Ks) (hN : N ≤ N') : RXs w B x N' A n k m s Ks :=
  ⟨h.box, h.row, h.ln, fun K hK => (h.all K hK).mono hN, Nat.le_trans h.nN hN, h.le⟩
theorem XLeft.of_below {w w' : World} {B x N n k : Nat} {A : Option Addr} {m s : Int} {Ks : List DK} (h : RXs w B x N A n k m s Ks) (hb : Below w.heap.size w w') : XLeft w B x (N + 1) w' :=
  ⟨A, n, k, m, s, Ks, (h.below hb).mono (Nat.le_succ _), Turned.of_below hb _⟩
/-- A part of the row of keys, as a source. -/
theorem RXs.part {w : World} {B x N n k : Nat} {A : Option Addr} {m s : Int} {Ks : List DK} (h : RXs w B x N A n k m s Ks) {g : Nat} (hg : A = some ⟨g, 0, none⟩) (i j : Nat) (hij : i ≤ j) (hj : j ≤ n) : (kC ((Ks.take j).drop i)).length = (j - i) * 2 ∧ ∀ q u, (kC ((Ks.take j).drop i))[q]? = some u → w.cell? ⟨g, i * 2 + q, none⟩ = some u := by
  subst hg
  have hl := h.ln
  refine ⟨by rw [kC_length, List.length_drop, List.length_take]; congr 1; omega, fun q u hq => ?_⟩
  rw [← kC_drop, List.getElem?_drop, ← kC_take] at hq
  rw [List.getElem?_take] at hq
  have hq : (kC Ks)[i * 2 + q]? = some u := by
    split at hq
    · exact hq
    · cases hq
  by_cases hn : 0 < n
  · obtain ⟨g', e, _, _, _, _, hc⟩ := gown_at h.row hn
    obtain rfl : g = g' := by injection e with e; injection e
    exact hc _ _ hq
  · have : Ks = [] := List.eq_nil_of_length_eq_zero (by omega)
    subst this
    simp [kC] at hq
/-- Its own block is written, nothing else. -/
theorem RXs.rest {w w' : World} {B x N n k : Nat} {A : Option Addr} {m s : Int} {Ks : List DK} (h : RXs w B x N A n k m s Ks) (t : Turned w w' (fun j => j = x)) : w'.ownsRow B 122 2 (.slice A n k) n (kC Ks) ∧ ∀ K ∈ Ks, DKAt w' B N K := by
  have hx : ∀ {g : Nat} {c : Array Value} {t : TypeId}, w.heap[g]? = some (.cells c t (0, 0)) → t ≠ 50 → g ≠ x := fun hc ht => ne_of_types hc (show w.heap[x]? = some _ from h.box) ht
  refine ⟨gown_turned h.row t (fun g hg e => ?_), fun K hK => (h.all K hK).turned t (fun g hg e => ?_) (fun g hg e => ?_)⟩
  · obtain ⟨c, hc⟩ := gown_cl (k := 0) h.row hg
    exact hx hc (by decide) e
  · obtain ⟨c, hc⟩ := gown_cl (k := 0) (h.all K hK).key hg
    exact hx hc (by decide) e
  · obtain ⟨c, hc⟩ := gown_cl (k := 0) (h.all K hK).ent hg
    exact hx hc (by decide) e
theorem RXs.rebox {w w' : World} {B x N n k : Nat} {A : Option Addr} {m s m' s' : Int} {Ks : List DK} (h : RXs w B x N A n k m s Ks) (t : Turned w w' (fun j => j = x)) (hb : Blk w' x 50 [.slice A n k, .int .i64 m', .int .i64 s']) : RXs w' B x N A n k m' s' Ks :=
  ⟨hb, (h.rest t).1, h.ln, (h.rest t).2, h.nN, h.le⟩
/-- A key laid anew, in its place. -/
theorem RXs.laid {w : World} {B x N n k : Nat} {A : Option Addr} {m s : Int} {Ks : List DK} (h : RXs w B x N A n k m s Ks) {i j : Nat} (hij : i ≤ j) (hj : j ≤ n) {base bk c13 : Nat} {A13 : Option Addr} {K : DK} (hB : B ≤ base)
    (hrow : w.ownsRow base 122 2 (.slice A13 (i + 1 + (n - j)) c13) (i + 1 + (n - j)) (kC (Ks.take i) ++ K.cells ++ kC ((Ks.take n).drop j))) (hkey : w.ownsRow bk 5 1 (.slice K.A K.n K.c) K.n (cellsOf K.xs)) (hbk : B ≤ bk) (hent : w.ownsRow B 124 5 (.slice K.G K.gn K.gk) K.gn (renC K.I)) (hn1 : K.n ≤ 1000) (hgn : K.gn ≤ N + 1) :
    RXs (w.setCell ⟨x, 0, none⟩ (.slice A13 (i + 1 + (n - j)) c13)) B x (N + 1) A13 (i + 1 + (n - j)) c13 m s (Ks.take i ++ K :: Ks.drop j) ∧ Turned w (w.setCell ⟨x, 0, none⟩ (.slice A13 (i + 1 + (n - j)) c13)) (fun q => q = x) := by
  have t : Turned w (w.setCell ⟨x, 0, none⟩ (.slice A13 (i + 1 + (n - j)) c13)) (fun q => q = x) := (Turned.refl w (fun q => q = x)).setCell (p := ⟨x, 0, none⟩) (fun _ => rfl) _
  have hx : ∀ {g : Nat} {c : Array Value} {t : TypeId}, w.heap[g]? = some (.cells c t (0, 0)) → t ≠ 50 → g ≠ x := fun hc ht => ne_of_types hc (show w.heap[x]? = some _ from h.box) ht
  have hall := (h.rest t).2
  have hkc : kC (Ks.take i ++ K :: Ks.drop j) = kC (Ks.take i) ++ K.cells ++ kC ((Ks.take n).drop j) := by
    rw [← h.ln, List.take_length, kC_append, List.append_assoc]
    congr 1
  have hnew : DKAt (w.setCell ⟨x, 0, none⟩ (.slice A13 (i + 1 + (n - j)) c13)) B (N + 1) K := ⟨own_mono3 (gown_turned hkey t (fun g hg e => by obtain ⟨c, hc⟩ := gown_cl (k := 0) hkey hg; exact hx hc (by decide) e)) hbk, gown_turned hent t (fun g hg e => by obtain ⟨c, hc⟩ := gown_cl (k := 0) hent hg; exact hx hc (by decide) e), hn1, hgn⟩
  refine ⟨⟨h.box.set_ 0 _, ?_, ?_, fun K' hK => ?_, ?_, h.le⟩, t⟩
  · rw [hkc]
    exact own_mono3 (gown_turned hrow t (fun g hg e => by obtain ⟨c, hc⟩ := gown_cl (k := 0) hrow hg; exact hx hc (by decide) e)) hB
  · have := h.ln
    rw [List.length_append, List.length_cons, List.length_take, List.length_drop]
    omega
  · rcases List.mem_append.1 hK with hK | hK
    · exact (hall K' (List.mem_of_mem_take hK)).mono (Nat.le_succ _)
    · rcases List.mem_cons.1 hK with rfl | hK
      · exact hnew
      · exact (hall K' (List.mem_of_mem_drop hK)).mono (Nat.le_succ _)
  · have := h.nN
    omega
set_option maxHeartbeats 4000000 in
theorem xset_any {w : World} {B x N n k : Nat} {A : Option Addr} {m s : Int} {Ks : List DK} (h : RXs w B x N A n k m s Ks) (hN : N ≤ 900000) (A1 : Option Addr) (n1 c1 : Nat) (ys : List UInt8) (hr : ∀ W, Turned w W (fun j => j = x) → Rd W A1 n1 ys) (hn1 : n1 ≤ 1000) (q : Rv)
    {G : Option Addr} {gn gk : Nat} {I : List En5} (hg : w.ownsRow B 124 5 (.slice G gn gk) gn (renC I)) (hgn : gn ≤ N + 1) (er : Int) :
    Calls Tryz.prog 68 #[.pointer (some ⟨x, 0, none⟩), .slice A1 n1 c1, .agg #[.int .i64 q.1, .int .i64 q.2], .agg #[.slice G gn gk], .int .i64 er] w (XChg w B x N) := by
  have hb0 : Below w.heap.size w ((w.alloc (.cells #[.int .i64 q.1, .int .i64 q.2] 29)).alloc (.cells #[.slice G gn gk] 118)) := ((Below.refl _ w).alloc (Nat.le_refl _) _).alloc (by simp) _
  have HK7 := kept ((Blk.new w 29 #[.int .i64 q.1, .int .i64 q.2]).alloc (.cells #[.slice G gn gk] 118))
  have HK8 := kept (Blk.new (w.alloc (.cells #[.int .i64 q.1, .int .i64 q.2] 29)) 118 #[.slice G gn gk])
  rw [World.size_alloc] at HK8
  have HX := kept (And.intro h (And.intro hr (And.intro hg hgn)))
  have HB := kept hb0
  clear hb0 h hr hg hgn
  by_cases he2 : er = 2
  · subst he2
    go_enter Tryz.func68, Tryz.ntmps68
    go_wp2
    go_returns
    exact ⟨2, rfl, XLeft.of_below HX.out.1 HB.out⟩
  · have he2' : (er == 2) = false := by simp [he2]
    go_enter Tryz.func68, Tryz.ntmps68
    go_wp2
    generalize (w.alloc (.cells #[.int .i64 q.1, .int .i64 q.2] 29)).alloc (.cells #[.slice G gn gk] 118) = W0 at HK7 HK8 HB ⊢
    have hbe : Below W0.heap.size W0 W0.drew := (Below.refl _ _).drew
    have hx0 := HX.out.1.below (bel_to hbe HB.out)
    have HS0 := kept (show (fun W' : World => (W'.cell? ⟨x, 1, none⟩ = some (.int .i64 m) ∧ W'.cell? ⟨x, 2, none⟩ = some (.int .i64 s)) ∧ W'.cell? ⟨w.heap.size, 0, none⟩ = some (.int .i64 q.1) ∧ W'.cell? ⟨w.heap.size, 1, none⟩ = some (.int .i64 q.2)) W0.drew from ⟨⟨hx0.box.cell 1, hx0.box.cell 2⟩, (HK7.out.below hbe HK7.out.lt).cell 0, (HK7.out.below hbe HK7.out.lt).cell 1⟩)
    have HBW := kept (bel_to hbe HB.out)
    have HK7D := kept (HK7.out.below hbe HK7.out.lt)
    have HK8D := kept (HK8.out.below hbe HK8.out.lt)
    have HAH := fun W => kept (refAhead_any m s q.1 q.2 W)
    generalize decide (ordR m s q.1 q.2 < 0) = t at HAH
    clear hbe hx0 HK7 HK8 HB
    refine wp_region_held_drew (S := (fun W' => (W'.cell? ⟨x, 1, none⟩ = some (.int .i64 m) ∧ W'.cell? ⟨x, 2, none⟩ = some (.int .i64 s)) ∧ W'.cell? ⟨w.heap.size, 0, none⟩ = some (.int .i64 q.1) ∧ W'.cell? ⟨w.heap.size, 1, none⟩ = some (.int .i64 q.2))) (by kernel_rfl) ?_ (fun hHeld => ?_)
    · ((try dsimp only); (first | with_reducible exact HS0.out | with_reducible exact HS1.out))
    refine hand_take 0 (some 17) ?_ (by kernel_rfl) (by kernel_rfl) (by kernel_rfl) (by kernel_rfl) (by kernel_rfl) (fun _ _ _ h => h) ?_ (by assumption) ?_
    rotate_left
    · (intro o ho w hSw; (simp only [List.getElem?_toArray, List.getElem?_cons_succ, List.getElem?_cons_zero, Option.some.injEq] at ho); subst ho; (try dsimp only at hSw); go_simp; (first | done | with_reducible rfl))
    (try simp only [Act.put, List.setIfInBounds_toArray, List.set_cons_zero, List.set_cons_succ])
    refine hand_take 1 (some 18) ?_ (by kernel_rfl) (by kernel_rfl) (by kernel_rfl) (by kernel_rfl) (by kernel_rfl) (fun _ _ _ h => h) ?_ (by assumption) ?_
    rotate_left
    · (intro o ho w hSw; (simp only [List.getElem?_toArray, List.getElem?_cons_succ, List.getElem?_cons_zero, Option.some.injEq] at ho); subst ho; (try dsimp only at hSw); go_simp; (first | done | with_reducible rfl))
    (try simp only [Act.put, List.setIfInBounds_toArray, List.set_cons_zero, List.set_cons_succ])
    refine hand_take 2 (some 19) ?_ (by kernel_rfl) (by kernel_rfl) (by kernel_rfl) (by kernel_rfl) (by kernel_rfl) (fun _ _ _ h => h) ?_ (by assumption) ?_
    rotate_left
    · (intro o ho w hSw; (simp only [List.getElem?_toArray, List.getElem?_cons_succ, List.getElem?_cons_zero, Option.some.injEq] at ho); subst ho; (try dsimp only at hSw); go_simp; (first | done | with_reducible rfl))
    (try simp only [Act.put, List.setIfInBounds_toArray, List.set_cons_zero, List.set_cons_succ])
    refine hand_take 3 (some 20) ?_ (by kernel_rfl) (by kernel_rfl) (by kernel_rfl) (by kernel_rfl) (by kernel_rfl) (fun _ _ _ h => h) ?_ (by assumption) ?_
    rotate_left
    · (intro o ho w hSw; (simp only [List.getElem?_toArray, List.getElem?_cons_succ, List.getElem?_cons_zero, Option.some.injEq] at ho); subst ho; (try dsimp only at hSw); go_simp; (first | done | with_reducible rfl))
    (try simp only [Act.put, List.setIfInBounds_toArray, List.set_cons_zero, List.set_cons_succ])
    refine hand_take 4 (some 21) ?_ (by kernel_rfl) (by kernel_rfl) (by kernel_rfl) (by kernel_rfl) (by kernel_rfl) (fun _ _ _ h => h) ?_ (by assumption) ?_
    rotate_left
    · (intro o ho w hSw; (simp only [List.getElem?_toArray, List.getElem?_cons_succ, List.getElem?_cons_zero, Option.some.injEq] at ho); subst ho; (try dsimp only at hSw); go_simp; (first | done | with_reducible rfl))
    (try simp only [Act.put, List.setIfInBounds_toArray, List.set_cons_zero, List.set_cons_succ])
    refine hand_ready 5 (by kernel_rfl) (by kernel_rfl) (fun o ho K hK => ?_)
    (simp only [List.getElem?_toArray, List.getElem?_cons_succ, List.getElem?_cons_zero, Option.some.injEq] at ho)
    subst ho
    go_simp
    (go_at_call 103; (with_reducible refine (HAH _).out.mono ?_); rintro e w1 ⟨rfl, hb⟩; (have hkp := Keeps.of_below hb); (have HS1 := kept (show (fun W' : World => (W'.cell? ⟨x, 1, none⟩ = some (.int .i64 m) ∧ W'.cell? ⟨x, 2, none⟩ = some (.int .i64 s)) ∧ W'.cell? ⟨w.heap.size, 0, none⟩ = some (.int .i64 q.1) ∧ W'.cell? ⟨w.heap.size, 1, none⟩ = some (.int .i64 q.2)) w1 from ⟨⟨hkp.cell_ HS0.out.1.1, hkp.cell_ HS0.out.1.2⟩, hkp.cell_ HS0.out.2.1, hkp.cell_ HS0.out.2.2⟩)); have HB1 := kept hb; clear hb hkp)
    (try go_wp2_with fail)
    refine hK.out _ _ ?_ (fun hHeld => ?_)
    · ((try dsimp only); (first | with_reducible exact HS0.out | with_reducible exact HS1.out))
    clear hK K
    (try simp only [Act.put, List.setIfInBounds_toArray, List.set_cons_zero, List.set_cons_succ])
    refine hand_take 6 (some 23) ?_ (by kernel_rfl) (by kernel_rfl) (by kernel_rfl) (by kernel_rfl) (by kernel_rfl) (fun _ _ _ h => h) ?_ (by assumption) ?_
    rotate_left
    · (intro o ho w hSw; (simp only [List.getElem?_toArray, List.getElem?_cons_succ, List.getElem?_cons_zero, Option.some.injEq] at ho); subst ho; (try dsimp only at hSw); go_simp; (first | done | with_reducible rfl))
    (try simp only [Act.put, List.setIfInBounds_toArray, List.set_cons_zero, List.set_cons_succ])
    refine wpAnyH_done (by kernel_rfl) ?_ _
    have hbw := bel_to HB1.out HBW.out
    cases t
    · have HBF := kept hbw
      clear hbw
      go_wp2
      go_returns
      exact ⟨8, rfl, XLeft.of_below HX.out.1 HBF.out⟩
    · by_cases he0 : er = 0
      · subst he0
        have hx1 := HX.out.1.below hbw
        have x0 := hx1.box.cell 0
        have x1 := hx1.box.cell 1
        have x2 := hx1.box.cell 2
        have f1 := hx1.box.frozen 1
        have f2 := hx1.box.frozen 2
        have hk7 := HK7D.out.below HB1.out HK7D.out.lt
        have r0 := hk7.cell 0
        have r1 := hk7.cell 1
        have t1 : Turned w1 (w1.setCell ⟨x, 1, none⟩ (.int .i64 q.1)) (fun j => j = x) := (Turned.refl w1 (fun j => j = x)).setCell (p := ⟨x, 1, none⟩) (fun _ => rfl) _
        have t2 : Turned w1 ((w1.setCell ⟨x, 1, none⟩ (.int .i64 q.1)).setCell ⟨x, 2, none⟩ (.int .i64 q.2)) (fun j => j = x) := t1.setCell (p := ⟨x, 2, none⟩) (fun _ => rfl) _
        have HX2 := kept (hx1.rebox t2 ((hx1.box.set_ 1 (.int .i64 q.1)).set_ 2 (.int .i64 q.2)))
        have hne : ∀ {b : Nat} {t : TypeId} {cs : List Value}, Blk w1 b t cs → t ≠ 50 → b ≠ x := fun hb ht => ne_of_types (show w1.heap[_]? = some _ from hb) (show w1.heap[x]? = some _ from hx1.box) ht
        have hk8 := HK8D.out.below HB1.out HK8D.out.lt
        have HK8E := kept (t2.blk hk8 (fun e => hne hk8 (by decide) e))
        have HT2 := kept (And.intro (Turned.trans (Turned.of_below hbw (fun j => j = x)) t2) hx1.box.lt)
        clear hbw hx1 hk7 t1 t2 hne hk8
        have HAT := fun W (hx : RXs W B x N A n k q.1 q.2 Ks) (hr : Rd W A1 n1 ys) => kept (xat_any hx (by omega) A1 n1 c1 ys hr hn1)
        go_wp2_with fail
        generalize (w1.setCell ⟨x, 1, none⟩ (.int .i64 q.1)).setCell ⟨x, 2, none⟩ (.int .i64 q.2) = W2 at HX2 HK8E HT2 ⊢
        with_reducible refine ((HAT W2 HX2.out (HX.out.2.1 W2 HT2.out.1)).out).mono ?_
        rintro e w3 ⟨i, t, rfl, hin, ht, hb⟩
        have hx3 := HX2.out.below hb
        have hsrc : (A = none ∧ n = 0 ∧ k = 0) ∨ ∃ g, A = some ⟨g, 0, none⟩ := by
          rcases hx3.row.2 with ⟨e, h0⟩ | ⟨g, cap, cur, e, _⟩
          · injection e with e1 e2 e3
            exact .inl ⟨e1, h0, e3⟩
          · injection e with e1 e2 e3
            exact .inr ⟨g, e1⟩
        have hnk := (gown_cap hx3.row).1
        have hnm := (gown_cap hx3.row).2.1
        have HX3 := kept (hx3.below ((Below.refl _ w3).alloc (Nat.le_refl _) (.cells #[] 122)))
        have HBA := kept ((Below.refl _ w3).alloc (Nat.le_refl _) (.cells #[] 122))
        have HE := kept (key_empty (t := 122) (Nat.le_refl w3.heap.size) rfl)
        have HB3 := kept hb
        have x0 := HX3.out.box.cell 0
        have HNT := kept (And.intro hin ht)
        have hi0 : (0 : Int) ≤ (i : Int) := by omega
        have hin' : (i : Int) ≤ (n : Int) := by omega
        have hik : i ≤ k := by omega
        have hN3 : n ≤ 900000 := Nat.le_trans hx3.nN hN
        clear hb hx3 hin ht
        rcases hsrc with ⟨rfl, rfl, rfl⟩ | ⟨g, rfl⟩
        · obtain rfl : i = 0 := by omega
          go_wp2_with (first | (at_builtin; refine wpList_append_h rfl _ _ 48 rfl 122 rfl rfl Tryz.underlying48 keyinfo rfl (by decide) (by decide) HE.out (ys := kC (Ks.take 0)) rfl (fun h0 => absurd h0 (by omega)) (kC_one _) (by omega) HBA.out.size ?_; intro A9 c9 w9 h9 g9; rw [List.nil_append, Nat.zero_add] at h9; (try simp only [Nat.zero_add]); have HP9 := kept h9; have HB9 := kept (bel_grown HBA.out (Nat.le_refl _) HE.out g9); clear h9 g9))
          have htd : Turned w w9.drew (fun j => j = x) := (HT2.out.1.trans (Turned.of_below HB3.out _)).trans ((Turned.of_below HB9.out (fun j => j = x)).trans (Turned.of_below (Below.refl _ _).drew _))
          have HTW := kept (twin_any A1 n1 c1 ys w9.drew (HX.out.2.1 _ htd) (by omega))
          have HTD := kept htd
          have hbe : Below w9.heap.size w9 w9.drew := (Below.refl _ _).drew
          have hk8 := (HK8E.out.below HB3.out HK8E.out.lt).below HB9.out (HK8E.out.below HB3.out HK8E.out.lt).lt
          have HS0 := kept (show (fun W' : World => W'.cell? ⟨w.heap.size + 1, 0, none⟩ = some (.slice G gn gk)) w9.drew from (hk8.below hbe hk8.lt).cell 0)
          have HP := kept (gown_turned HP9.out (Turned.of_below hbe (fun _ => False)) (fun _ _ e => e))
          have HZ := kept (bel_to hbe HB9.out)
          have HSC : Hid (∀ W, Below w3.heap.size w3 W → (fun W' : World => W'.cell? ⟨w.heap.size + 1, 0, none⟩ = some (.slice G gn gk)) W) := kept (fun W hW => (Keeps.of_below hW).cell_ ((HK8E.out.below HB3.out HK8E.out.lt).cell 0))
          clear htd hbe hk8 x0
          refine wp_region_held_drew (S := (fun W' => W'.cell? ⟨w.heap.size + 1, 0, none⟩ = some (.slice G gn gk))) (by kernel_rfl) ?_ (fun hHeld => ?_)
          · ((try dsimp only); (first | with_reducible exact HS0.out | with_reducible exact HS1.out | with_reducible exact HS2.out | with_reducible exact HS3.out))
          refine hand_take 0 (some 45) ?_ (by kernel_rfl) (by kernel_rfl) (by kernel_rfl) (by kernel_rfl) (by kernel_rfl) (fun _ _ _ h => h) ?_ (by assumption) ?_
          rotate_left
          · (intro o ho w hSw; (simp only [List.getElem?_toArray, List.getElem?_cons_succ, List.getElem?_cons_zero, Option.some.injEq] at ho); subst ho; (try dsimp only at hSw); go_simp; (first | done | with_reducible rfl))
          (try simp only [Act.put, List.setIfInBounds_toArray, List.set_cons_zero, List.set_cons_succ])
          refine hand_take 1 (some 46) ?_ (by kernel_rfl) (by kernel_rfl) (by kernel_rfl) (by kernel_rfl) (by kernel_rfl) (fun _ _ _ h => h) ?_ (by assumption) ?_
          rotate_left
          · (intro o ho w hSw; (simp only [List.getElem?_toArray, List.getElem?_cons_succ, List.getElem?_cons_zero, Option.some.injEq] at ho); subst ho; (try dsimp only at hSw); go_simp; (first | done | with_reducible rfl))
          (try simp only [Act.put, List.setIfInBounds_toArray, List.set_cons_zero, List.set_cons_succ])
          refine hand_take 3 (some 48) ?_ (by kernel_rfl) (by kernel_rfl) (by kernel_rfl) (by kernel_rfl) (by kernel_rfl) (fun _ _ _ h => h) ?_ (by assumption) ?_
          rotate_left
          · (intro o ho w hSw; (simp only [List.getElem?_toArray, List.getElem?_cons_succ, List.getElem?_cons_zero, Option.some.injEq] at ho); subst ho; (try dsimp only at hSw); go_simp; (first | done | with_reducible rfl))
          (try simp only [Act.put, List.setIfInBounds_toArray, List.set_cons_zero, List.set_cons_succ])
          refine hand_ready 2 (by kernel_rfl) (by kernel_rfl) (fun o ho K hK => ?_)
          (simp only [List.getElem?_toArray, List.getElem?_cons_succ, List.getElem?_cons_zero, Option.some.injEq] at ho)
          subst ho
          go_simp
          (go_at_call 36; (with_reducible refine HTW.out.mono ?_); rintro e w10 ⟨A10, c10, rfl, ho10, hb⟩; have HTO := kept ho10; replace HZ := kept (bel_to hb HZ.out); (have HS1 := kept (HSC.out w10 HZ.out)); replace HP := kept (gown_turned HP.out (Turned.of_below hb (fun _ => False)) (fun _ _ e => e)); clear ho10 hb)
          (try go_wp2_with fail)
          refine hK.out _ _ ?_ (fun hHeld => ?_)
          · ((try dsimp only); (first | with_reducible exact HS0.out | with_reducible exact HS1.out | with_reducible exact HS2.out | with_reducible exact HS3.out))
          clear hK K
          (try simp only [Act.put, List.setIfInBounds_toArray, List.set_cons_zero, List.set_cons_succ])
          refine hand_take 4 (some 49) ?_ (by kernel_rfl) (by kernel_rfl) (by kernel_rfl) (by kernel_rfl) (by kernel_rfl) (fun _ _ _ h => h) ?_ (by assumption) ?_
          rotate_left
          · (intro o ho w hSw; (simp only [List.getElem?_toArray, List.getElem?_cons_succ, List.getElem?_cons_zero, Option.some.injEq] at ho); subst ho; (try dsimp only at hSw); go_simp; (first | done | with_reducible rfl))
          (try simp only [Act.put, List.setIfInBounds_toArray, List.set_cons_zero, List.set_cons_succ])
          refine hand_ready 5 (by kernel_rfl) (by kernel_rfl) (fun o ho K hK => ?_)
          (simp only [List.getElem?_toArray, List.getElem?_cons_succ, List.getElem?_cons_zero, Option.some.injEq] at ho)
          subst ho
          go_simp
          (refine name_world (fun Wy hWy => ?_); (have hby := below_alloc hWy); (have HY := kept (ren_new hWy)); replace HZ := kept (bel_to hby HZ.out); replace HP := kept (gown_turned HP.out (Turned.of_below hby (fun _ => False)) (fun _ _ e => e)); replace HTO := kept (gown_turned HTO.out (Turned.of_below hby (fun _ => False)) (fun _ _ e => e)); (have HS2 := kept (HSC.out Wy HZ.out)); clear hby hWy)
          refine hK.out _ _ ?_ (fun hHeld => ?_)
          · ((try dsimp only); (first | with_reducible exact HS0.out | with_reducible exact HS1.out | with_reducible exact HS2.out | with_reducible exact HS3.out))
          clear hK K
          (try simp only [Act.put, List.setIfInBounds_toArray, List.set_cons_zero, List.set_cons_succ])
          refine hand_ready 6 (by kernel_rfl) (by kernel_rfl) (fun o ho K hK => ?_)
          (simp only [List.getElem?_toArray, List.getElem?_cons_succ, List.getElem?_cons_zero, Option.some.injEq] at ho)
          subst ho
          (refine wp_append_h (.tmp 45) (.tmp 50) 48 rfl 122 rfl rfl Tryz.underlying48 keyinfo rfl (by decide) (by decide) HP.out (ys := [.slice A10 n1 c10, .slice G gn gk]) rfl (fun _ => ⟨_, rfl, fun j u hj => by rw [gadd_at, Nat.zero_add]; exact (HY.out.cell j).trans hj⟩) (by intro u hu; simp only [List.mem_cons, List.not_mem_nil, or_false] at hu; rcases hu with rfl | rfl <;> rfl) (by omega) HZ.out.size ?_; intro A11 c11 w11 h11 g11; have HP11 := kept h11; replace HZ := kept (bel_grown HZ.out (Nat.le_refl _) HP.out g11); (have HS3 := kept (HSC.out w11 HZ.out)); replace HTO := kept (gown_apart HTO.out HP.out g11 (by decide)); clear h11 g11)
          refine hK.out _ _ ?_ (fun hHeld => ?_)
          · ((try dsimp only); (first | with_reducible exact HS0.out | with_reducible exact HS1.out | with_reducible exact HS2.out | with_reducible exact HS3.out))
          clear hK K
          (try simp only [Act.put, List.setIfInBounds_toArray, List.set_cons_zero, List.set_cons_succ])
          refine hand_take 7 (some 13) ?_ (by kernel_rfl) (by kernel_rfl) (by kernel_rfl) (by kernel_rfl) (by kernel_rfl) (fun _ _ _ h => h) ?_ (by assumption) ?_
          rotate_left
          · (intro o ho w hSw; (simp only [List.getElem?_toArray, List.getElem?_cons_succ, List.getElem?_cons_zero, Option.some.injEq] at ho); subst ho; (try dsimp only at hSw); go_simp; (first | done | with_reducible rfl))
          (try simp only [Act.put, List.setIfInBounds_toArray, List.set_cons_zero, List.set_cons_succ])
          refine wpAnyH_done (by kernel_rfl) ?_ _
          have hx11 := (HX2.out.below HB3.out).below HZ.out
          clear HS0
          cases t
          · have HX11 := kept hx11
            have x11 := hx11.box.cell 0
            clear hx11
            go_wp2_with (first | (at_builtin; refine wpList_append_h rfl _ _ 48 rfl 122 rfl rfl Tryz.underlying48 keyinfo rfl (by decide) (by decide) HP11.out (m := 0) (ys := []) rfl (fun h0 => absurd h0 (by omega)) (fun u hu => by cases hu) (by omega) HZ.out.size ?_; intro A13 c13 w13 h13 g13; have HP13 := kept h13; have HZ13 := kept (bel_grown HZ.out (Nat.le_refl _) HP11.out g13); have HTO13 := kept (gown_apart HTO.out HP11.out g13 (by decide)); have hx13 := (HX2.out.below HB3.out).below HZ13.out; have x13 := hx13.box.cell 0; have f13 := hx13.box.frozen 0; have HX13 := kept hx13; clear h13 g13 hx13))
            all_goals
              go_returns
              have hsz3 : x < w3.heap.size := (HX2.out.below HB3.out).box.lt
              have hwr : w.heap.size ≤ w9.drew.heap.size := HTD.out.size
              have hxw := HX.out.1.box.lt
              have hle := HX.out.1.le
              have hks : Ks = [] := List.eq_nil_of_length_eq_zero HX.out.1.ln
              have tall : Turned w w13 (fun j => j = x) := (HT2.out.1.trans (Turned.of_below HB3.out _)).trans (Turned.of_below HZ13.out _)
              have hent := gown_turned HX.out.2.2.1 tall (fun g' hg' e => by
                obtain ⟨c', hc'⟩ := gown_cl (k := 0) HX.out.2.2.1 hg'
                exact ne_of_types hc' (show w.heap[x]? = some _ from HX.out.1.box) (by decide) e)
              obtain ⟨r1, r2⟩ := RXs.laid (K := ⟨A10, n1, c10, ys, G, gn, gk, I⟩) HX13.out (i := 0) (j := 0) (by omega) (by omega) (Nat.le_trans hle (Nat.le_of_lt hsz3)) (by rw [hks]; exact HP13.out) HTO13.out (by omega) hent hn1 HX.out.2.2.2
              exact ⟨0, rfl, _, _, _, _, _, _, r1, tall.trans r2⟩
          · exact absurd (HNT.out.2 rfl) (by omega)
        · have HSR : Hid ((kC (Ks.take i)).length = i * 2 ∧ ∀ q u, (kC (Ks.take i))[q]? = some u → (w3.alloc (.cells #[] 122)).cell? ⟨g, q, none⟩ = some u) := kept (by
            have h := HX3.out.part (g := g) rfl 0 i (Nat.zero_le _) HNT.out.1
            simpa only [Nat.zero_mul, Nat.zero_add, Nat.sub_zero, List.drop_zero] using h)
          go_wp2_with (first | (at_builtin; refine wpList_append_h rfl _ _ 48 rfl 122 rfl rfl Tryz.underlying48 keyinfo rfl (by decide) (by decide) HE.out (ys := kC (Ks.take i)) HSR.out.1 (fun h0 => ⟨_, rfl, fun j u hj => by rw [gadd_at, Nat.zero_add]; exact HSR.out.2 j u hj⟩) (kC_one _) (by omega) HBA.out.size ?_; intro A9 c9 w9 h9 g9; rw [List.nil_append, Nat.zero_add] at h9; (try simp only [Nat.zero_add]); have HP9 := kept h9; have HB9 := kept (bel_grown HBA.out (Nat.le_refl _) HE.out g9); clear h9 g9))
          have htd : Turned w w9.drew (fun j => j = x) := (HT2.out.1.trans (Turned.of_below HB3.out _)).trans ((Turned.of_below HB9.out (fun j => j = x)).trans (Turned.of_below (Below.refl _ _).drew _))
          have HTW := kept (twin_any A1 n1 c1 ys w9.drew (HX.out.2.1 _ htd) (by omega))
          have HTD := kept htd
          have hbe : Below w9.heap.size w9 w9.drew := (Below.refl _ _).drew
          have hk8 := (HK8E.out.below HB3.out HK8E.out.lt).below HB9.out (HK8E.out.below HB3.out HK8E.out.lt).lt
          have HS0 := kept (show (fun W' : World => W'.cell? ⟨w.heap.size + 1, 0, none⟩ = some (.slice G gn gk)) w9.drew from (hk8.below hbe hk8.lt).cell 0)
          have HP := kept (gown_turned HP9.out (Turned.of_below hbe (fun _ => False)) (fun _ _ e => e))
          have HZ := kept (bel_to hbe HB9.out)
          have HSC : Hid (∀ W, Below w3.heap.size w3 W → (fun W' : World => W'.cell? ⟨w.heap.size + 1, 0, none⟩ = some (.slice G gn gk)) W) := kept (fun W hW => (Keeps.of_below hW).cell_ ((HK8E.out.below HB3.out HK8E.out.lt).cell 0))
          clear htd hbe hk8 x0
          refine wp_region_held_drew (S := (fun W' => W'.cell? ⟨w.heap.size + 1, 0, none⟩ = some (.slice G gn gk))) (by kernel_rfl) ?_ (fun hHeld => ?_)
          · ((try dsimp only); (first | with_reducible exact HS0.out | with_reducible exact HS1.out | with_reducible exact HS2.out | with_reducible exact HS3.out))
          refine hand_take 0 (some 45) ?_ (by kernel_rfl) (by kernel_rfl) (by kernel_rfl) (by kernel_rfl) (by kernel_rfl) (fun _ _ _ h => h) ?_ (by assumption) ?_
          rotate_left
          · (intro o ho w hSw; (simp only [List.getElem?_toArray, List.getElem?_cons_succ, List.getElem?_cons_zero, Option.some.injEq] at ho); subst ho; (try dsimp only at hSw); go_simp; (first | done | with_reducible rfl))
          (try simp only [Act.put, List.setIfInBounds_toArray, List.set_cons_zero, List.set_cons_succ])
          refine hand_take 1 (some 46) ?_ (by kernel_rfl) (by kernel_rfl) (by kernel_rfl) (by kernel_rfl) (by kernel_rfl) (fun _ _ _ h => h) ?_ (by assumption) ?_
          rotate_left
          · (intro o ho w hSw; (simp only [List.getElem?_toArray, List.getElem?_cons_succ, List.getElem?_cons_zero, Option.some.injEq] at ho); subst ho; (try dsimp only at hSw); go_simp; (first | done | with_reducible rfl))
          (try simp only [Act.put, List.setIfInBounds_toArray, List.set_cons_zero, List.set_cons_succ])
          refine hand_take 3 (some 48) ?_ (by kernel_rfl) (by kernel_rfl) (by kernel_rfl) (by kernel_rfl) (by kernel_rfl) (fun _ _ _ h => h) ?_ (by assumption) ?_
          rotate_left
          · (intro o ho w hSw; (simp only [List.getElem?_toArray, List.getElem?_cons_succ, List.getElem?_cons_zero, Option.some.injEq] at ho); subst ho; (try dsimp only at hSw); go_simp; (first | done | with_reducible rfl))
          (try simp only [Act.put, List.setIfInBounds_toArray, List.set_cons_zero, List.set_cons_succ])
          refine hand_ready 2 (by kernel_rfl) (by kernel_rfl) (fun o ho K hK => ?_)
          (simp only [List.getElem?_toArray, List.getElem?_cons_succ, List.getElem?_cons_zero, Option.some.injEq] at ho)
          subst ho
          go_simp
          (go_at_call 36; (with_reducible refine HTW.out.mono ?_); rintro e w10 ⟨A10, c10, rfl, ho10, hb⟩; have HTO := kept ho10; replace HZ := kept (bel_to hb HZ.out); (have HS1 := kept (HSC.out w10 HZ.out)); replace HP := kept (gown_turned HP.out (Turned.of_below hb (fun _ => False)) (fun _ _ e => e)); clear ho10 hb)
          (try go_wp2_with fail)
          refine hK.out _ _ ?_ (fun hHeld => ?_)
          · ((try dsimp only); (first | with_reducible exact HS0.out | with_reducible exact HS1.out | with_reducible exact HS2.out | with_reducible exact HS3.out))
          clear hK K
          (try simp only [Act.put, List.setIfInBounds_toArray, List.set_cons_zero, List.set_cons_succ])
          refine hand_take 4 (some 49) ?_ (by kernel_rfl) (by kernel_rfl) (by kernel_rfl) (by kernel_rfl) (by kernel_rfl) (fun _ _ _ h => h) ?_ (by assumption) ?_
          rotate_left
          · (intro o ho w hSw; (simp only [List.getElem?_toArray, List.getElem?_cons_succ, List.getElem?_cons_zero, Option.some.injEq] at ho); subst ho; (try dsimp only at hSw); go_simp; (first | done | with_reducible rfl))
          (try simp only [Act.put, List.setIfInBounds_toArray, List.set_cons_zero, List.set_cons_succ])
          refine hand_ready 5 (by kernel_rfl) (by kernel_rfl) (fun o ho K hK => ?_)
          (simp only [List.getElem?_toArray, List.getElem?_cons_succ, List.getElem?_cons_zero, Option.some.injEq] at ho)
          subst ho
          go_simp
          (refine name_world (fun Wy hWy => ?_); (have hby := below_alloc hWy); (have HY := kept (ren_new hWy)); replace HZ := kept (bel_to hby HZ.out); replace HP := kept (gown_turned HP.out (Turned.of_below hby (fun _ => False)) (fun _ _ e => e)); replace HTO := kept (gown_turned HTO.out (Turned.of_below hby (fun _ => False)) (fun _ _ e => e)); (have HS2 := kept (HSC.out Wy HZ.out)); clear hby hWy)
          refine hK.out _ _ ?_ (fun hHeld => ?_)
          · ((try dsimp only); (first | with_reducible exact HS0.out | with_reducible exact HS1.out | with_reducible exact HS2.out | with_reducible exact HS3.out))
          clear hK K
          (try simp only [Act.put, List.setIfInBounds_toArray, List.set_cons_zero, List.set_cons_succ])
          refine hand_ready 6 (by kernel_rfl) (by kernel_rfl) (fun o ho K hK => ?_)
          (simp only [List.getElem?_toArray, List.getElem?_cons_succ, List.getElem?_cons_zero, Option.some.injEq] at ho)
          subst ho
          (refine wp_append_h (.tmp 45) (.tmp 50) 48 rfl 122 rfl rfl Tryz.underlying48 keyinfo rfl (by decide) (by decide) HP.out (ys := [.slice A10 n1 c10, .slice G gn gk]) rfl (fun _ => ⟨_, rfl, fun j u hj => by rw [gadd_at, Nat.zero_add]; exact (HY.out.cell j).trans hj⟩) (by intro u hu; simp only [List.mem_cons, List.not_mem_nil, or_false] at hu; rcases hu with rfl | rfl <;> rfl) (by omega) HZ.out.size ?_; intro A11 c11 w11 h11 g11; have HP11 := kept h11; replace HZ := kept (bel_grown HZ.out (Nat.le_refl _) HP.out g11); (have HS3 := kept (HSC.out w11 HZ.out)); replace HTO := kept (gown_apart HTO.out HP.out g11 (by decide)); clear h11 g11)
          refine hK.out _ _ ?_ (fun hHeld => ?_)
          · ((try dsimp only); (first | with_reducible exact HS0.out | with_reducible exact HS1.out | with_reducible exact HS2.out | with_reducible exact HS3.out))
          clear hK K
          (try simp only [Act.put, List.setIfInBounds_toArray, List.set_cons_zero, List.set_cons_succ])
          refine hand_take 7 (some 13) ?_ (by kernel_rfl) (by kernel_rfl) (by kernel_rfl) (by kernel_rfl) (by kernel_rfl) (fun _ _ _ h => h) ?_ (by assumption) ?_
          rotate_left
          · (intro o ho w hSw; (simp only [List.getElem?_toArray, List.getElem?_cons_succ, List.getElem?_cons_zero, Option.some.injEq] at ho); subst ho; (try dsimp only at hSw); go_simp; (first | done | with_reducible rfl))
          (try simp only [Act.put, List.setIfInBounds_toArray, List.set_cons_zero, List.set_cons_succ])
          refine wpAnyH_done (by kernel_rfl) ?_ _
          have hx11 := (HX2.out.below HB3.out).below HZ.out
          clear HS0
          cases t
          ·
            have HSR2 := kept (hx11.part (g := g) rfl i n (by omega) (Nat.le_refl _))
            have HX11 := kept hx11
            have x11 := hx11.box.cell 0
            have hjk : (i : Int) ≤ (k : Int) := by omega
            have hj0 : (0 : Int) ≤ (i : Int) := by omega
            have hjn : (i : Int) ≤ (n : Int) := by omega
            have hin2 : i ≤ n := by omega
            clear hx11
            go_wp2_with (first | (at_builtin; refine wpList_append_h rfl _ _ 48 rfl 122 rfl rfl Tryz.underlying48 keyinfo rfl (by decide) (by decide) HP11.out (m := n - i) (ys := kC ((Ks.take n).drop i)) HSR2.out.1 (fun h0 => ⟨_, if_neg (by omega), fun j u hj => by rw [gadd_at]; exact HSR2.out.2 j u hj⟩) (kC_one _) (by omega) HZ.out.size ?_; intro A13 c13 w13 h13 g13; have HP13 := kept h13; have HZ13 := kept (bel_grown HZ.out (Nat.le_refl _) HP11.out g13); have HTO13 := kept (gown_apart HTO.out HP11.out g13 (by decide)); have hx13 := (HX2.out.below HB3.out).below HZ13.out; have x13 := hx13.box.cell 0; have f13 := hx13.box.frozen 0; have HX13 := kept hx13; clear h13 g13 hx13))
            all_goals
              go_returns
              have hsz3 : x < w3.heap.size := (HX2.out.below HB3.out).box.lt
              have hwr : w.heap.size ≤ w9.drew.heap.size := HTD.out.size
              have hxw := HX.out.1.box.lt
              have hle := HX.out.1.le
              have tall : Turned w w13 (fun j => j = x) := (HT2.out.1.trans (Turned.of_below HB3.out _)).trans (Turned.of_below HZ13.out _)
              have hent := gown_turned HX.out.2.2.1 tall (fun g' hg' e => by
                obtain ⟨c', hc'⟩ := gown_cl (k := 0) HX.out.2.2.1 hg'
                exact ne_of_types hc' (show w.heap[x]? = some _ from HX.out.1.box) (by decide) e)
              obtain ⟨r1, r2⟩ := RXs.laid (K := ⟨A10, n1, c10, ys, G, gn, gk, I⟩) HX13.out (i := i) (j := i) (by omega) hin2 (Nat.le_trans hle (Nat.le_of_lt hsz3)) HP13.out HTO13.out (by omega) hent hn1 HX.out.2.2.2
              first | exact ⟨0, rfl, _, _, _, _, _, _, r1, tall.trans r2⟩ | (rw [show i + 1 + (n - (i + 1)) = n by omega] at r1 r2; exact ⟨0, rfl, _, _, _, _, _, _, r1, tall.trans r2⟩)
          · have hit := HNT.out.2 rfl
            have hwi : wrap64 ((i : Int) + 1) = ((i + 1 : Nat) : Int) := (IntWalk.wrap64_in _ ⟨by omega, by omega⟩).trans (by omega)
            have HSR2 := kept (hx11.part (g := g) rfl (i + 1) n (by omega) (Nat.le_refl _))
            have HX11 := kept hx11
            have x11 := hx11.box.cell 0
            have hjk : ((i + 1 : Nat) : Int) ≤ (k : Int) := by omega
            have hj0 : (0 : Int) ≤ ((i + 1 : Nat) : Int) := by omega
            have hjn : ((i + 1 : Nat) : Int) ≤ (n : Int) := by omega
            have hin2 : i + 1 ≤ n := by omega
            clear hx11
            go_wp2_with (first | (at_builtin; refine wpList_append_h rfl _ _ 48 rfl 122 rfl rfl Tryz.underlying48 keyinfo rfl (by decide) (by decide) HP11.out (m := n - (i + 1)) (ys := kC ((Ks.take n).drop (i + 1))) HSR2.out.1 (fun h0 => ⟨_, if_neg (by omega), fun j u hj => by rw [gadd_at]; exact HSR2.out.2 j u hj⟩) (kC_one _) (by omega) HZ.out.size ?_; intro A13 c13 w13 h13 g13; have HP13 := kept h13; have HZ13 := kept (bel_grown HZ.out (Nat.le_refl _) HP11.out g13); have HTO13 := kept (gown_apart HTO.out HP11.out g13 (by decide)); have hx13 := (HX2.out.below HB3.out).below HZ13.out; have x13 := hx13.box.cell 0; have f13 := hx13.box.frozen 0; have HX13 := kept hx13; clear h13 g13 hx13))
            all_goals
              go_returns
              have hsz3 : x < w3.heap.size := (HX2.out.below HB3.out).box.lt
              have hwr : w.heap.size ≤ w9.drew.heap.size := HTD.out.size
              have hxw := HX.out.1.box.lt
              have hle := HX.out.1.le
              have tall : Turned w w13 (fun j => j = x) := (HT2.out.1.trans (Turned.of_below HB3.out _)).trans (Turned.of_below HZ13.out _)
              have hent := gown_turned HX.out.2.2.1 tall (fun g' hg' e => by
                obtain ⟨c', hc'⟩ := gown_cl (k := 0) HX.out.2.2.1 hg'
                exact ne_of_types hc' (show w.heap[x]? = some _ from HX.out.1.box) (by decide) e)
              obtain ⟨r1, r2⟩ := RXs.laid (K := ⟨A10, n1, c10, ys, G, gn, gk, I⟩) HX13.out (i := i) (j := i + 1) (by omega) hin2 (Nat.le_trans hle (Nat.le_of_lt hsz3)) HP13.out HTO13.out (by omega) hent hn1 HX.out.2.2.2
              first | exact ⟨0, rfl, _, _, _, _, _, _, r1, tall.trans r2⟩ | (rw [show i + 1 + (n - (i + 1)) = n by omega] at r1 r2; exact ⟨0, rfl, _, _, _, _, _, _, r1, tall.trans r2⟩)
      · have HBF := kept hbw
        have he0' : (er != 0) = true := by simp [he0]
        clear hbw
        go_wp2
        go_returns
        exact ⟨er, rfl, XLeft.of_below HX.out.1 HBF.out⟩
end Go.Proofs.YtlckeebbjnhejaaGreat
end

section
/-
  The document's own index: Put, Tomb, Restore.
-/
namespace Go.Proofs.YtlckeebbjnhejaaGreat
open Go.ChangeShapes Go.WideShapes Go.ChangeAt Go.RowKit Go.Deep
set_option linter.unusedVariables false
set_option linter.unusedSimpArgs false

theorem renC_len {w : World} {base gn gk : Nat} {G : Option Addr} {I : List En5} (h : w.ownsRow base 124 5 (.slice G gn gk) gn (renC I)) : I.length = gn := by
  have := h.1
  rw [renC_length] at this
  omega
theorem turnR_below {B : Nat} {w w' : World} (t : TurnR B w w') {M : Nat} (h : M ≤ B) {w0 : World} (hb : Below M w0 w) (hM : w0.heap.size = M) : Below M w0 w' := by
  subst hM
  exact bel_left hb t (fun j hj => Nat.le_trans h hj.1)
set_option maxHeartbeats 2000000 in
theorem xput_any {w : World} {B x N n k : Nat} {A : Option Addr} {m s : Int} {Ks : List DK} (h : RXs w B x N A n k m s Ks) (hN : N ≤ 800000) (A1 : Option Addr) (n1 c1 : Nat) (ys : List UInt8) (hr : ∀ W, Turned w W (fun j => j = x) → Rd W A1 n1 ys) (hn1 : n1 ≤ 1000) (q : Rv) :
    Calls Tryz.prog 37 #[.pointer (some ⟨x, 0, none⟩), .slice A1 n1 c1, .agg #[.int .i64 q.1, .int .i64 q.2]] w (XChg w B x N) := by
  have hb0 : Below w.heap.size w (w.alloc (.cells #[.int .i64 q.1, .int .i64 q.2] 29)) := (Below.refl _ w).alloc (Nat.le_refl _) _
  have HT := kept (two_new w 29 q.1 q.2)
  have HX := kept (h.below hb0)
  have HR := kept (fun W (hb : Below w.heap.size w W) => (fun W' (t : Turned W W' (fun j => j = x)) => hr W' ((Turned.of_below hb _).trans t)))
  have HOF := kept (xof_any (h.below hb0) (by omega) A1 n1 c1 ys (hr _ (Turned.of_below hb0 _)) hn1)
  have HB := kept hb0
  have HX0 := kept h
  clear hb0 h hr
  go_enter Tryz.func37, Tryz.ntmps37
  go_wp2_with fail
  generalize w.alloc (.cells #[.int .i64 q.1, .int .i64 q.2] 29) = W0 at HT HX HOF HB ⊢
  with_reducible refine HOF.out.mono ?_
  rintro e w1 ⟨G, gn, gk, I, rfl, hown, hgn, hb⟩
  have hba : Below w1.heap.size w1 (w1.alloc (.cells #[.slice G gn gk] 118)) := (Below.refl _ _).alloc (Nat.le_refl _) _
  have HRF := kept (show RF (w1.alloc (.cells #[.slice G gn gk] 118)) W0.heap.size w1.heap.size gn from ⟨G, gk, I, Blk.new w1 118 #[.slice G gn gk], gown_turned hown (Turned.of_below hba (fun _ => False)) (fun _ _ e => e), renC_len hown, hb.size⟩)
  obtain ⟨t0, t1⟩ := HT.out.keeps (Keeps.of_below (bel_to hba hb))
  have HB2 := kept (bel_to hba hb)
  have HGN := kept hgn
  clear hown hb hba hgn
  go_wp2_with fail
  generalize w1.alloc (.cells #[.slice G gn gk] 118) = W2 at HRF t0 t1 HB2 ⊢
  with_reducible refine (rput_any HRF.out (by have := HGN.out; omega) q).mono ?_
  rintro e w3 ⟨er, n3, _, rfl, hrf, hn3, _, ht⟩
  have hb3 := turnR_below ht (Nat.le_refl _) HB2.out rfl
  obtain ⟨t0, t1⟩ := HT.out.keeps (Keeps.of_below hb3)
  obtain ⟨G3, k3, I3, hbk, hown3, hI3, _⟩ := hrf
  have b0 := hbk.cell 0
  have HX3 := kept (HX.out.below hb3)
  have HB3 := kept (bel_to hb3 HB.out)
  have hle : B ≤ W0.heap.size := Nat.le_trans HX.out.le (Nat.le_of_lt HX.out.box.lt)
  have HSET := kept (xset_any HX3.out (by omega) A1 n1 c1 ys (HR.out w3 HB3.out) hn1 q (own_mono3 hown3 hle) (by have := HGN.out; omega) er)
  clear hb3 hbk hown3 hle ht
  go_wp2_with fail
  with_reducible refine HSET.out.mono ?_
  rintro e w4 ⟨er4, rfl, A4, n4, k4, m4, s4, Ks4, hx4, ht4⟩
  have HF := kept (And.intro hx4 ((Turned.of_below HB3.out (fun j => j = x)).trans ht4))
  clear hx4 ht4
  go_wp2
  go_returns
  exact ⟨er4, rfl, _, _, _, _, _, _, HF.out.1, HF.out.2⟩
set_option maxHeartbeats 2000000 in
theorem xtomb_any {w : World} {B x N n k : Nat} {A : Option Addr} {m s : Int} {Ks : List DK} (h : RXs w B x N A n k m s Ks) (hN : N ≤ 800000) (A1 : Option Addr) (n1 c1 : Nat) (ys : List UInt8) (hr : ∀ W, Turned w W (fun j => j = x) → Rd W A1 n1 ys) (hn1 : n1 ≤ 1000) (q : Rv) :
    Calls Tryz.prog 38 #[.pointer (some ⟨x, 0, none⟩), .slice A1 n1 c1, .agg #[.int .i64 q.1, .int .i64 q.2]] w (XChg w B x N) := by
  have hb0 : Below w.heap.size w (w.alloc (.cells #[.int .i64 q.1, .int .i64 q.2] 29)) := (Below.refl _ w).alloc (Nat.le_refl _) _
  have HT := kept (two_new w 29 q.1 q.2)
  have HX := kept (h.below hb0)
  have HR := kept (fun W (hb : Below w.heap.size w W) => (fun W' (t : Turned W W' (fun j => j = x)) => hr W' ((Turned.of_below hb _).trans t)))
  have HOF := kept (xof_any (h.below hb0) (by omega) A1 n1 c1 ys (hr _ (Turned.of_below hb0 _)) hn1)
  have HB := kept hb0
  have HX0 := kept h
  clear hb0 h hr
  go_enter Tryz.func38, Tryz.ntmps38
  go_wp2_with fail
  generalize w.alloc (.cells #[.int .i64 q.1, .int .i64 q.2] 29) = W0 at HT HX HOF HB ⊢
  with_reducible refine HOF.out.mono ?_
  rintro e w1 ⟨G, gn, gk, I, rfl, hown, hgn, hb⟩
  have hba : Below w1.heap.size w1 (w1.alloc (.cells #[.slice G gn gk] 118)) := (Below.refl _ _).alloc (Nat.le_refl _) _
  have HRF := kept (show RF (w1.alloc (.cells #[.slice G gn gk] 118)) W0.heap.size w1.heap.size gn from ⟨G, gk, I, Blk.new w1 118 #[.slice G gn gk], gown_turned hown (Turned.of_below hba (fun _ => False)) (fun _ _ e => e), renC_len hown, hb.size⟩)
  obtain ⟨t0, t1⟩ := HT.out.keeps (Keeps.of_below (bel_to hba hb))
  have HB2 := kept (bel_to hba hb)
  have HGN := kept hgn
  clear hown hb hba hgn
  go_wp2_with fail
  generalize w1.alloc (.cells #[.slice G gn gk] 118) = W2 at HRF t0 t1 HB2 ⊢
  with_reducible refine (rtomb_any HRF.out (by have := HGN.out; omega) q).mono ?_
  rintro e w3 ⟨er, n3, _, rfl, hrf, hn3, _, ht⟩
  have hb3 := turnR_below ht (Nat.le_refl _) HB2.out rfl
  obtain ⟨t0, t1⟩ := HT.out.keeps (Keeps.of_below hb3)
  obtain ⟨G3, k3, I3, hbk, hown3, hI3, _⟩ := hrf
  have b0 := hbk.cell 0
  have HX3 := kept (HX.out.below hb3)
  have HB3 := kept (bel_to hb3 HB.out)
  have hle : B ≤ W0.heap.size := Nat.le_trans HX.out.le (Nat.le_of_lt HX.out.box.lt)
  have HSET := kept (xset_any HX3.out (by omega) A1 n1 c1 ys (HR.out w3 HB3.out) hn1 q (own_mono3 hown3 hle) (by have := HGN.out; omega) er)
  clear hb3 hbk hown3 hle ht
  go_wp2_with fail
  with_reducible refine HSET.out.mono ?_
  rintro e w4 ⟨er4, rfl, A4, n4, k4, m4, s4, Ks4, hx4, ht4⟩
  have HF := kept (And.intro hx4 ((Turned.of_below HB3.out (fun j => j = x)).trans ht4))
  clear hx4 ht4
  go_wp2
  go_returns
  exact ⟨er4, rfl, _, _, _, _, _, _, HF.out.1, HF.out.2⟩
theorem rrest_any {w : World} {B b n : Nat} (h : RF w B b n) (hn : n ≤ 900000) (q : Rv) (c v : Int) (t : Bool) :
    Calls Tryz.prog 75 #[.pointer (some ⟨b, 0, none⟩), .agg #[.int .i64 q.1, .int .i64 q.2], .int .i64 c, .int .i64 v, .bool t] w (RRes w B b n) := by
  cases t
  · exact rrest_put h hn q c v
  · exact rrest_tomb h hn q c v
set_option maxHeartbeats 2000000 in
theorem xrest_any {w : World} {B x N n k : Nat} {A : Option Addr} {m s : Int} {Ks : List DK} (h : RXs w B x N A n k m s Ks) (hN : N ≤ 800000) (A1 : Option Addr) (n1 c1 : Nat) (ys : List UInt8) (hr : ∀ W, Turned w W (fun j => j = x) → Rd W A1 n1 ys) (hn1 : n1 ≤ 1000) (q : Rv) (cc vv : Int) (tb : Bool) :
    Calls Tryz.prog 42 #[.pointer (some ⟨x, 0, none⟩), .slice A1 n1 c1, .agg #[.int .i64 q.1, .int .i64 q.2], .int .i64 cc, .int .i64 vv, .bool tb] w (XChg w B x N) := by
  have hb0 : Below w.heap.size w (w.alloc (.cells #[.int .i64 q.1, .int .i64 q.2] 29)) := (Below.refl _ w).alloc (Nat.le_refl _) _
  have HT := kept (two_new w 29 q.1 q.2)
  have HX := kept (h.below hb0)
  have HR := kept (fun W (hb : Below w.heap.size w W) => (fun W' (t : Turned W W' (fun j => j = x)) => hr W' ((Turned.of_below hb _).trans t)))
  have HOF := kept (xof_any (h.below hb0) (by omega) A1 n1 c1 ys (hr _ (Turned.of_below hb0 _)) hn1)
  have HB := kept hb0
  have HX0 := kept h
  clear hb0 h hr
  go_enter Tryz.func42, Tryz.ntmps42
  go_wp2_with fail
  generalize w.alloc (.cells #[.int .i64 q.1, .int .i64 q.2] 29) = W0 at HT HX HOF HB ⊢
  with_reducible refine HOF.out.mono ?_
  rintro e w1 ⟨G, gn, gk, I, rfl, hown, hgn, hb⟩
  have hba : Below w1.heap.size w1 (w1.alloc (.cells #[.slice G gn gk] 118)) := (Below.refl _ _).alloc (Nat.le_refl _) _
  have HRF := kept (show RF (w1.alloc (.cells #[.slice G gn gk] 118)) W0.heap.size w1.heap.size gn from ⟨G, gk, I, Blk.new w1 118 #[.slice G gn gk], gown_turned hown (Turned.of_below hba (fun _ => False)) (fun _ _ e => e), renC_len hown, hb.size⟩)
  obtain ⟨t0, t1⟩ := HT.out.keeps (Keeps.of_below (bel_to hba hb))
  have HB2 := kept (bel_to hba hb)
  have HGN := kept hgn
  clear hown hb hba hgn
  go_wp2_with fail
  generalize w1.alloc (.cells #[.slice G gn gk] 118) = W2 at HRF t0 t1 HB2 ⊢
  with_reducible refine (rrest_any HRF.out (by have := HGN.out; omega) q cc vv tb).mono ?_
  rintro e w3 ⟨er, n3, rfl, hrf, hn3, ht⟩
  have hb3 := turnR_below ht (Nat.le_refl _) HB2.out rfl
  obtain ⟨t0, t1⟩ := HT.out.keeps (Keeps.of_below hb3)
  obtain ⟨G3, k3, I3, hbk, hown3, hI3, _⟩ := hrf
  have b0 := hbk.cell 0
  have HX3 := kept (HX.out.below hb3)
  have HB3 := kept (bel_to hb3 HB.out)
  have hle : B ≤ W0.heap.size := Nat.le_trans HX.out.le (Nat.le_of_lt HX.out.box.lt)
  have HSET := kept (xset_any HX3.out (by omega) A1 n1 c1 ys (HR.out w3 HB3.out) hn1 q (own_mono3 hown3 hle) (by have := HGN.out; omega) er)
  clear hb3 hbk hown3 hle ht
  go_wp2_with fail
  with_reducible refine HSET.out.mono ?_
  rintro e w4 ⟨er4, rfl, A4, n4, k4, m4, s4, Ks4, hx4, ht4⟩
  have HF := kept (And.intro hx4 ((Turned.of_below HB3.out (fun j => j = x)).trans ht4))
  clear hx4 ht4
  go_wp2
  go_returns
  exact ⟨er4, rfl, _, _, _, _, _, _, HF.out.1, HF.out.2⟩
end Go.Proofs.YtlckeebbjnhejaaGreat
end

section
/-
  The document's own index: revisions in order (Sorted), as far as a law that doesn't look at the order wants it.
-/
namespace Go.Proofs.YtlckeebbjnhejaaGreat
open Go.ChangeShapes Go.WideShapes Go.ChangeAt Go.RowKit Go.Deep
set_option linter.unusedVariables false
set_option linter.unusedSimpArgs false

/-- Revisions in a row of the call's own. -/
def XRevs (w : World) (N : Nat) (e : Ending) (w' : World) : Prop := ∃ (A : Option Addr) (n c : Nat) (ps : List Rv), e = .returned (.slice A n c) ∧ w'.ownsRow w.heap.size 29 2 (.slice A n c) n (rvC ps) ∧ n ≤ N ∧ Below w.heap.size w w'
theorem rvC_take (ps : List Rv) : ∀ k, (rvC ps).take (k * 2) = rvC (ps.take k) := by
  induction ps with
  | nil => intro k; simp [rvC]
  | cons p ps ih =>
    intro k
    cases k with
    | zero => simp [rvC]
    | succ k =>
      have e : rvC (p :: ps) = .int .i64 p.1 :: .int .i64 p.2 :: rvC ps := rfl
      have e2 : rvC (p :: ps.take k) = .int .i64 p.1 :: .int .i64 p.2 :: rvC (ps.take k) := rfl
      rw [e, List.take_succ_cons, e2, show (k + 1) * 2 = k * 2 + 1 + 1 by omega]
      simpa using ih k
structure OutV (W0 : World) (M g n c : Nat) (ps : List Rv) (wr : World) : Prop where
  own : wr.ownsRow M 29 2 (.slice (some ⟨g, 0, none⟩) n c) n (rvC ps)
  bel : Below M W0 wr
  M0 : W0.heap.size = M
theorem OutV.below {W0 wr w' : World} {M g n c : Nat} {ps : List Rv} (h : OutV W0 M g n c ps wr) (hb : Below wr.heap.size wr w') : OutV W0 M g n c ps w' :=
  ⟨gown_turned h.own (Turned.of_below hb (fun _ => False)) (fun _ _ e => e), (by have := h.M0; subst this; exact bel_to hb h.bel), h.M0⟩
theorem OutV.ln {W0 wr : World} {M g n c : Nat} {ps : List Rv} (h : OutV W0 M g n c ps wr) : ps.length = n := by
  have := h.own.1
  rw [rvC_length] at this
  omega
theorem OutV.part {W0 wr : World} {M g n c : Nat} {ps : List Rv} (h : OutV W0 M g n c ps wr) (i j : Nat) (hij : i ≤ j) (hj : j ≤ n) : (rvC ((ps.take j).drop i)).length = (j - i) * 2 ∧ ∀ q u, (rvC ((ps.take j).drop i))[q]? = some u → wr.cell? ⟨g, i * 2 + q, none⟩ = some u := by
  have hl := h.ln
  refine ⟨by rw [rvC_length, List.length_drop, List.length_take]; congr 1; omega, fun q u hq => ?_⟩
  rw [← rvC_drop, List.getElem?_drop, ← rvC_take, List.getElem?_take] at hq
  have hq : (rvC ps)[i * 2 + q]? = some u := by
    split at hq
    · exact hq
    · cases hq
  by_cases hn : 0 < n
  · obtain ⟨g', e, _, _, _, _, hc⟩ := gown_at h.own hn
    obtain rfl : g = g' := by injection e with e; injection e
    exact hc _ _ hq
  · have : ps = [] := List.eq_nil_of_length_eq_zero (by omega)
    subst this
    simp [rvC] at hq
theorem rev_empty {M : Nat} {X W : World} {t : TypeId} (hM : M ≤ X.heap.size) (hW : W = X.alloc (.cells #[] t)) : W.ownsRow M t 2 (.slice (some ⟨X.heap.size, 0, none⟩) 0 0) 0 [] := key_empty hM hW
set_option maxHeartbeats 4000000 in
theorem sorted_any {w : World} {A : Option Addr} {n c : Nat} {ps : List Rv} (h : RdR w A n ps) (hn : n ≤ 1000000) :
    Calls Tryz.prog 71 #[.slice A n c] w (XRevs w n) := by
  have HR := kept (h.keeps (Keeps.alloc w (.cells #[] 29)))
  have hln := h.1
  have H0 : Hid (∃ qs, OutV w w.heap.size w.heap.size 0 0 qs (w.alloc (.cells #[] 29))) := kept ⟨[], rev_empty (Nat.le_refl _) rfl, (Below.refl _ w).alloc (Nat.le_refl _) _, rfl⟩
  have HBW := kept ((Below.refl _ w).alloc (Nat.le_refl _) (.cells #[] 29))
  clear h
  go_enter Tryz.func71, Tryz.ntmps71
  go_wp2
  generalize w.alloc (.cells #[] 29) = W0 at HR H0 HBW ⊢
  go_loopw [11, 3] (fun i o wr => ∃ (j g co : Nat), j ≤ n ∧ i = .int .i64 (j : Int) ∧ o = .slice (some ⟨g, 0, none⟩) j co ∧ Hid (Below W0.heap.size W0 wr ∧ ∃ qs, OutV w w.heap.size g j co qs wr)) (fun i _ _ => n - (intOf i).toNat)
  case atStart => exact ⟨0, w.heap.size, 0, Nat.zero_le _, rfl, rfl, kept ⟨Below.refl _ _, H0.out⟩⟩
  case round =>
    obtain ⟨j, g, co, hj, rfl, rfl, HI⟩ := hrel
    clear H0
    have hj0 : (0 : Int) ≤ (j : Int) := by omega
    by_cases hjn : j < n
    · have hjn' : (j : Int) < (n : Int) := by omega
      obtain ⟨hbw, qs, hqs⟩ := HI.out
      obtain ⟨g1, o1, hA, z0, z1⟩ := (HR.out.keeps (Keeps.of_below hbw)).2 j (by omega)
      generalize ps[j] = z at z0 z1
      subst hA
      have hb1 : Below wr.heap.size wr (wr.alloc (.cells #[.int .i64 z.1, .int .i64 z.2] 29)) := (Below.refl _ wr).alloc (Nat.le_refl _) _
      have HZ := kept (two_new wr 29 z.1 z.2)
      have HQ := kept (hqs.below hb1)
      have HBW1 := kept (bel_to hb1 hbw)
      have HJ := kept hjn
      have hcj : j ≤ co := (gown_cap hqs.own).1
      have hwj : wrap64 ((j : Int) + 1) = (j : Int) + 1 := IntWalk.wrap64_in _ ⟨by omega, by omega⟩
      have hjb : j ≤ 1000000 := by omega
      clear hb1 hqs hbw HI hjn hj
      go_upto_region 6 with fail
      generalize wr.alloc (.cells #[.int .i64 z.1, .int .i64 z.2] 29) = W1 at HZ HQ HBW1 ⊢
      generalize wr.heap.size = rb at HZ ⊢
      go_loopw [6] (fun i wq => ∃ (m : Nat), m ≤ j ∧ i = .int .i64 (m : Int) ∧ Hid (Below W1.heap.size W1 wq)) (fun i _ => (intOf i).toNat)
      case atStart => exact ⟨j, Nat.le_refl _, rfl, kept (Below.refl _ _)⟩
      case round =>
        obtain ⟨m, hm, rfl, HI⟩ := hrel
        have hm0 : (0 : Int) ≤ (m : Int) := by omega
        have hq := HQ.out
        have hqw := hq.below HI.out
        obtain ⟨r0, r1⟩ := HZ.out.keeps (Keeps.of_below HI.out)
        have HHW := kept (Below.refl wr.heap.size wr)
        have HQW := kept hqw
        by_cases hmz : 0 < m
        · have hd : decide (0 < (m : Int)) = true := by simp; omega
          have hwm : wrap64 ((m : Int) - 1) = ((m - 1 : Nat) : Int) := (IntWalk.wrap64_in _ ⟨by omega, by omega⟩).trans (by omega)
          have hm1 : (0 : Int) ≤ ((m - 1 : Nat) : Int) := by omega
          have hm2 : ((m - 1 : Nat) : Int) < (j : Int) := by omega
          have hql : m - 1 < qs.length := by rw [hqw.ln]; omega
          obtain ⟨g', e', _, _, _, _, hc⟩ := gown_at hqw.own (by omega)
          obtain rfl : g = g' := by injection e' with e'; injection e'
          have q0 := hc _ _ (rvC_at qs (m - 1) hql).1
          have q1 := hc _ _ (rvC_at qs (m - 1) hql).2
          generalize qs[m - 1] = y at q0 q1
          obtain ⟨p, hp⟩ : ∃ p, m - 1 = p := ⟨_, rfl⟩
          rw [hp] at hwm hm1 hm2 q0 q1
          have hwk : IntKind.i64.wrap ((m : Int) - 1) = (p : Int) := by rw [IntKind.wrap_i64]; omega
          have HPM := kept (And.intro hp hm)
          have hbe : Below wr.heap.size wr wr.drew := (Below.refl _ _).drew
          have HS0 := kept (show (fun W' : World => (W'.cell? ⟨rb, 0, none⟩ = some (.int .i64 z.1) ∧ W'.cell? ⟨rb, 1, none⟩ = some (.int .i64 z.2)) ∧ W'.cell? ⟨g, p * 2, none⟩ = some (.int .i64 y.1) ∧ W'.cell? ⟨g, p * 2 + 1, none⟩ = some (.int .i64 y.2)) wr.drew from ⟨⟨(Keeps.of_below hbe).cell_ r0, (Keeps.of_below hbe).cell_ r1⟩, (Keeps.of_below hbe).cell_ q0, (Keeps.of_below hbe).cell_ q1⟩)
          have HAH := fun W => kept (refAhead_any z.1 z.2 y.1 y.2 W)
          generalize decide (ordR z.1 z.2 y.1 y.2 < 0) = t at HAH
          have HIB := kept (bel_to hbe HI.out)
          clear hbe q0 q1 r0 r1 hq hqw hc hql hp hm HI HQW HHW
          go_wp2
          refine wp_region_held_drew (S := (fun W' => (W'.cell? ⟨rb, 0, none⟩ = some (.int .i64 z.1) ∧ W'.cell? ⟨rb, 1, none⟩ = some (.int .i64 z.2)) ∧ W'.cell? ⟨g, p * 2, none⟩ = some (.int .i64 y.1) ∧ W'.cell? ⟨g, p * 2 + 1, none⟩ = some (.int .i64 y.2))) (by kernel_rfl) ?_ (fun hHeld => ?_)
          · ((try dsimp only); (first | with_reducible exact HS0.out | with_reducible exact HS1.out))
          refine hand_take 0 (some 17) ?_ (by kernel_rfl) (by kernel_rfl) (by kernel_rfl) (by kernel_rfl) (by kernel_rfl) (fun _ _ _ h => h) ?_ (by assumption) ?_
          rotate_left
          · (intro o ho w hSw; (simp only [List.getElem?_toArray, List.getElem?_cons_succ, List.getElem?_cons_zero, Option.some.injEq] at ho); subst ho; (try dsimp only at hSw); go_simp; (first | done | with_reducible rfl))
          (try simp only [Act.put, List.setIfInBounds_toArray, List.set_cons_zero, List.set_cons_succ])
          refine hand_take 1 (some 18) ?_ (by kernel_rfl) (by kernel_rfl) (by kernel_rfl) (by kernel_rfl) (by kernel_rfl) (fun _ _ _ h => h) ?_ (by assumption) ?_
          rotate_left
          · (intro o ho w hSw; (simp only [List.getElem?_toArray, List.getElem?_cons_succ, List.getElem?_cons_zero, Option.some.injEq] at ho); subst ho; (try dsimp only at hSw); go_simp; (first | done | with_reducible rfl))
          (try simp only [Act.put, List.setIfInBounds_toArray, List.set_cons_zero, List.set_cons_succ])
          refine hand_take 2 (some 19) ?_ (by kernel_rfl) (by kernel_rfl) (by kernel_rfl) (by kernel_rfl) (by kernel_rfl) (fun _ _ _ h => h) ?_ (by assumption) ?_
          rotate_left
          · (intro o ho w hSw; (simp only [List.getElem?_toArray, List.getElem?_cons_succ, List.getElem?_cons_zero, Option.some.injEq] at ho); subst ho; (try dsimp only at hSw); go_simp; (first | done | with_reducible rfl))
          (try simp only [Act.put, List.setIfInBounds_toArray, List.set_cons_zero, List.set_cons_succ])
          refine hand_take 3 (some 20) ?_ (by kernel_rfl) (by kernel_rfl) (by kernel_rfl) (by kernel_rfl) (by kernel_rfl) (fun _ _ _ h => h) ?_ (by assumption) ?_
          rotate_left
          · (intro o ho w hSw; (simp only [List.getElem?_toArray, List.getElem?_cons_succ, List.getElem?_cons_zero, Option.some.injEq] at ho); subst ho; (try dsimp only at hSw); go_simp; (first | done | with_reducible rfl))
          (try simp only [Act.put, List.setIfInBounds_toArray, List.set_cons_zero, List.set_cons_succ])
          refine hand_take 4 (some 21) ?_ (by kernel_rfl) (by kernel_rfl) (by kernel_rfl) (by kernel_rfl) (by kernel_rfl) (fun _ _ _ h => h) ?_ (by assumption) ?_
          rotate_left
          · (intro o ho w hSw; (simp only [List.getElem?_toArray, List.getElem?_cons_succ, List.getElem?_cons_zero, Option.some.injEq] at ho); subst ho; (try dsimp only at hSw); go_simp; (first | done | with_reducible rfl))
          (try simp only [Act.put, List.setIfInBounds_toArray, List.set_cons_zero, List.set_cons_succ])
          refine hand_take 5 (some 22) ?_ (by kernel_rfl) (by kernel_rfl) (by kernel_rfl) (by kernel_rfl) (by kernel_rfl) (fun _ _ _ h => h) ?_ (by assumption) ?_
          rotate_left
          · (intro o ho w hSw; (simp only [List.getElem?_toArray, List.getElem?_cons_succ, List.getElem?_cons_zero, Option.some.injEq] at ho); subst ho; (try dsimp only at hSw); go_simp; (first | done | with_reducible rfl))
          (try simp only [Act.put, List.setIfInBounds_toArray, List.set_cons_zero, List.set_cons_succ])
          refine hand_take 6 (some 23) ?_ (by kernel_rfl) (by kernel_rfl) (by kernel_rfl) (by kernel_rfl) (by kernel_rfl) (fun _ _ _ h => h) ?_ (by assumption) ?_
          rotate_left
          · (intro o ho w hSw; (simp only [List.getElem?_toArray, List.getElem?_cons_succ, List.getElem?_cons_zero, Option.some.injEq] at ho); subst ho; (try dsimp only at hSw); go_simp; (first | done | with_reducible rfl))
          (try simp only [Act.put, List.setIfInBounds_toArray, List.set_cons_zero, List.set_cons_succ])
          refine hand_take 7 (some 24) ?_ (by kernel_rfl) (by kernel_rfl) (by kernel_rfl) (by kernel_rfl) (by kernel_rfl) (fun _ _ _ h => h) ?_ (by assumption) ?_
          rotate_left
          · (intro o ho w hSw; (simp only [List.getElem?_toArray, List.getElem?_cons_succ, List.getElem?_cons_zero, Option.some.injEq] at ho); subst ho; (try dsimp only at hSw); go_simp; (first | done | with_reducible rfl))
          (try simp only [Act.put, List.setIfInBounds_toArray, List.set_cons_zero, List.set_cons_succ])
          refine hand_take 8 (some 25) ?_ (by kernel_rfl) (by kernel_rfl) (by kernel_rfl) (by kernel_rfl) (by kernel_rfl) (fun _ _ _ h => h) ?_ (by assumption) ?_
          rotate_left
          · (intro o ho w hSw; (simp only [List.getElem?_toArray, List.getElem?_cons_succ, List.getElem?_cons_zero, Option.some.injEq] at ho); subst ho; (try dsimp only at hSw); go_simp; (first | done | with_reducible rfl))
          (try simp only [Act.put, List.setIfInBounds_toArray, List.set_cons_zero, List.set_cons_succ])
          refine hand_ready 9 (by kernel_rfl) (by kernel_rfl) (fun o ho K hK => ?_)
          (simp only [List.getElem?_toArray, List.getElem?_cons_succ, List.getElem?_cons_zero, Option.some.injEq] at ho)
          subst ho
          go_simp
          (go_at_call 103; (with_reducible refine (HAH _).out.mono ?_); rintro e w1 ⟨rfl, hb⟩; (have hkp := Keeps.of_below hb); (have HS1 := kept (show (fun W' : World => (W'.cell? ⟨rb, 0, none⟩ = some (.int .i64 z.1) ∧ W'.cell? ⟨rb, 1, none⟩ = some (.int .i64 z.2)) ∧ W'.cell? ⟨g, p * 2, none⟩ = some (.int .i64 y.1) ∧ W'.cell? ⟨g, p * 2 + 1, none⟩ = some (.int .i64 y.2)) w1 from ⟨⟨hkp.cell_ HS0.out.1.1, hkp.cell_ HS0.out.1.2⟩, hkp.cell_ HS0.out.2.1, hkp.cell_ HS0.out.2.2⟩)); have HB1 := kept (bel_to hb HIB.out); clear hb hkp)
          (try go_wp2_with fail)
          refine hK.out _ _ ?_ (fun hHeld => ?_)
          · ((try dsimp only); (first | with_reducible exact HS0.out | with_reducible exact HS1.out))
          clear hK K
          (try simp only [Act.put, List.setIfInBounds_toArray, List.set_cons_zero, List.set_cons_succ])
          refine hand_take 10 (some 27) ?_ (by kernel_rfl) (by kernel_rfl) (by kernel_rfl) (by kernel_rfl) (by kernel_rfl) (fun _ _ _ h => h) ?_ (by assumption) ?_
          rotate_left
          · (intro o ho w hSw; (simp only [List.getElem?_toArray, List.getElem?_cons_succ, List.getElem?_cons_zero, Option.some.injEq] at ho); subst ho; (try dsimp only at hSw); go_simp; (first | done | with_reducible rfl))
          (try simp only [Act.put, List.setIfInBounds_toArray, List.set_cons_zero, List.set_cons_succ])
          refine wpAnyH_done (by kernel_rfl) ?_ _
          cases t
          · have HRW := HB1
            have HMJ := kept HPM.out.2
            generalize w1 = wx at HRW ⊢
            clear HB1 HS1 HS0 HIB HAH hwm hwk hm1 hm2 HPM
            have hqx := HQ.out.below HRW.out
            have hbe : Below wx.heap.size wx (wx.alloc (.cells #[] 29)) := (Below.refl _ _).alloc (Nat.le_refl _) _
            have HE := kept (rev_empty (t := 29) (Nat.le_refl wx.heap.size) rfl)
            have HP1 : Hid ((rvC (qs.take m)).length = m * 2 ∧ ∀ q u, (rvC (qs.take m))[q]? = some u → (wx.alloc (.cells #[] 29)).cell? ⟨g, q, none⟩ = some u) := kept (by
              have h := (hqx.below hbe).part 0 m (Nat.zero_le _) HMJ.out
              simpa only [Nat.zero_mul, Nat.zero_add, Nat.sub_zero, List.drop_zero] using h)
            have HBE := kept hbe
            have HQX := kept (hqx)
            have hmj : (m : Int) ≤ (j : Int) := by have := HMJ.out; omega
            have hmj' : m ≤ j := HMJ.out
            have hmc : m ≤ co := by omega
            clear hbe hqx
            go_wp2_with (first | (at_builtin; refine wpList_append_h rfl _ _ 41 rfl 29 rfl rfl Tryz.underlying41 revinfo rfl (by decide) (by decide) HE.out (ys := rvC (qs.take m)) HP1.out.1 (fun h0 => ⟨_, rfl, fun j u hj => by rw [gadd_at, Nat.zero_add]; exact HP1.out.2 j u hj⟩) (rvC_one _) (by omega) HBE.out.size ?_; intro A8 c8 w8 h8 g8; rw [List.nil_append, Nat.zero_add] at h8; (try simp only [Nat.zero_add, Nat.sub_zero]); have HP8 := kept h8; have HB8 := kept (bel_grown HBE.out (Nat.le_refl _) HE.out g8); obtain ⟨r0, r1⟩ := HZ.out.keeps (Keeps.of_below (bel_to HB8.out HRW.out)); have hba8 : Below w8.heap.size w8 (w8.alloc (.cells #[.int .i64 z.1, .int .i64 z.2] 29)) := (Below.refl _ _).alloc (Nat.le_refl _) _; have HP8A := kept (gown_turned HP8.out (Turned.of_below hba8 (fun _ => False)) (fun _ _ e => e)); have HBK := kept (Blk.new w8 29 #[.int .i64 z.1, .int .i64 z.2]); have HB8A := kept (bel_to hba8 HB8.out); clear h8 g8 hba8) | (at_builtin; refine wpList_append_h rfl _ _ 41 rfl 29 rfl rfl Tryz.underlying41 revinfo rfl (by decide) (by decide) HP8A.out (ys := [.int .i64 z.1, .int .i64 z.2]) rfl (fun _ => ⟨_, rfl, fun j u hj => by rw [gadd_at, Nat.zero_add]; exact (HBK.out.cell j).trans hj⟩) (by intro u hu; simp only [List.mem_cons, List.not_mem_nil, or_false] at hu; rcases hu with rfl | rfl <;> rfl) (by omega) HB8A.out.size ?_; intro A9 c9 w9 h9 g9; have HP9 := kept h9; have HB9 := kept (bel_grown HB8A.out (Nat.le_refl _) HP8A.out g9); have HS9 := kept ((HQX.out.below HB9.out).part m j hmj' (Nat.le_refl _)); clear h9 g9) | (at_builtin; refine wpList_append_h rfl _ _ 41 rfl 29 rfl rfl Tryz.underlying41 revinfo rfl (by decide) (by decide) HP9.out (m := j - m) (ys := rvC ((qs.take j).drop m)) HS9.out.1 (fun h0 => ⟨_, if_neg (by omega), fun j u hj => by rw [gadd_at]; exact HS9.out.2 j u hj⟩) (rvC_one _) (by omega) HB9.out.size ?_; intro A10 c10 w10 h10 g10; have HP10 := kept h10; have HB10 := kept (bel_grown HB9.out (Nat.le_refl _) HP9.out g10); clear h10 g10))
            all_goals
              have hln10 : m + 1 + (j - m) = j + 1 := by omega
              have hp10 := HP10.out
              rw [hln10] at hp10
              obtain ⟨g10, rfl, _⟩ := gown_at hp10 (by omega)
              have HREL : Hid (Below W0.heap.size W0 w10 ∧ ∃ qs, OutV w w.heap.size g10 (j + 1) c10 qs w10) := kept ⟨bel_to HB10.out (bel_to HRW.out HBW1.out), qs.take m ++ [z] ++ (qs.take j).drop m, own_mono3 (by rw [rvC_append, rvC_append]; exact hp10) (Nat.le_trans HQ.out.bel.size HRW.out.size), by have h0 := HQ.out.bel; exact bel_to HB10.out (bel_to HRW.out h0), rfl⟩
              go_roundw
              case rel => exact ⟨j + 1, g10, c10, by have := HJ.out; omega, by go_num, by first | rfl | rw [hln10], HREL⟩
              case measure => have := HJ.out; simp [intOf]; omega
          · have HB2 := HB1
            clear HB1 HS1 HS0 HIB
            go_wp2
            go_roundw
            case rel => exact ⟨p, by have := HPM.out; omega, by go_num, HB2⟩
            case measure => have := HPM.out; simp [intOf]; omega
        · have hd : decide (0 < (m : Int)) = false := by simp; omega
          obtain rfl : m = 0 := by omega
          have hbe : Below wr.heap.size wr wr.drew := (Below.refl _ _).drew
          have HRW0 := kept (bel_to hbe HI.out)
          have HS0 := kept (show (fun W' : World => W'.cell? ⟨rb, 0, none⟩ = some (.int .i64 z.1)) wr.drew from (Keeps.of_below hbe).cell_ r0)
          have HMJ := kept hm
          clear hbe r0 r1 hq hqw HI HQW HHW hm hmz
          go_wp2
          refine wp_region_held_drew (S := (fun W' => W'.cell? ⟨rb, 0, none⟩ = some (.int .i64 z.1))) (by kernel_rfl) ?_ (fun hHeld => ?_)
          · ((try dsimp only); (with_reducible exact HS0.out))
          refine hand_take 0 (some 17) ?_ (by kernel_rfl) (by kernel_rfl) (by kernel_rfl) (by kernel_rfl) (by kernel_rfl) (fun _ _ _ h => h) ?_ (by assumption) ?_
          rotate_left
          · (intro o ho w hSw; (simp only [List.getElem?_toArray, List.getElem?_cons_succ, List.getElem?_cons_zero, Option.some.injEq] at ho); subst ho; (try dsimp only at hSw); go_simp; (first | done | with_reducible rfl))
          (try simp only [Act.put, List.setIfInBounds_toArray, List.set_cons_zero, List.set_cons_succ])
          refine hand_take 1 (some 18) ?_ (by kernel_rfl) (by kernel_rfl) (by kernel_rfl) (by kernel_rfl) (by kernel_rfl) (fun _ _ _ h => h) ?_ (by assumption) ?_
          rotate_left
          · (intro o ho w hSw; (simp only [List.getElem?_toArray, List.getElem?_cons_succ, List.getElem?_cons_zero, Option.some.injEq] at ho); subst ho; (try dsimp only at hSw); go_simp; (first | done | with_reducible rfl))
          (try simp only [Act.put, List.setIfInBounds_toArray, List.set_cons_zero, List.set_cons_succ])
          refine hand_take 2 (some 19) ?_ (by kernel_rfl) (by kernel_rfl) (by kernel_rfl) (by kernel_rfl) (by kernel_rfl) (fun _ _ _ h => h) ?_ (by assumption) ?_
          rotate_left
          · (intro o ho w hSw; (simp only [List.getElem?_toArray, List.getElem?_cons_succ, List.getElem?_cons_zero, Option.some.injEq] at ho); subst ho; (try dsimp only at hSw); go_simp; (first | done | with_reducible rfl))
          (try simp only [Act.put, List.setIfInBounds_toArray, List.set_cons_zero, List.set_cons_succ])
          refine hand_skip 3 (some 20) (by kernel_rfl) (by kernel_rfl) (by kernel_rfl) (by kernel_rfl) (by kernel_rfl) (fun _ _ _ h => h) (by assumption) ?_
          (try simp only [Act.put, List.setIfInBounds_toArray, List.set_cons_zero, List.set_cons_succ])
          refine hand_skip 4 (some 21) (by kernel_rfl) (by kernel_rfl) (by kernel_rfl) (by kernel_rfl) (by kernel_rfl) (fun _ _ _ h => h) (by assumption) ?_
          (try simp only [Act.put, List.setIfInBounds_toArray, List.set_cons_zero, List.set_cons_succ])
          refine hand_skip 5 (some 22) (by kernel_rfl) (by kernel_rfl) (by kernel_rfl) (by kernel_rfl) (by kernel_rfl) (fun _ _ _ h => h) (by assumption) ?_
          (try simp only [Act.put, List.setIfInBounds_toArray, List.set_cons_zero, List.set_cons_succ])
          refine hand_skip 6 (some 23) (by kernel_rfl) (by kernel_rfl) (by kernel_rfl) (by kernel_rfl) (by kernel_rfl) (fun _ _ _ h => h) (by assumption) ?_
          (try simp only [Act.put, List.setIfInBounds_toArray, List.set_cons_zero, List.set_cons_succ])
          refine hand_skip 7 (some 24) (by kernel_rfl) (by kernel_rfl) (by kernel_rfl) (by kernel_rfl) (by kernel_rfl) (fun _ _ _ h => h) (by assumption) ?_
          (try simp only [Act.put, List.setIfInBounds_toArray, List.set_cons_zero, List.set_cons_succ])
          refine hand_skip 8 (some 25) (by kernel_rfl) (by kernel_rfl) (by kernel_rfl) (by kernel_rfl) (by kernel_rfl) (fun _ _ _ h => h) (by assumption) ?_
          (try simp only [Act.put, List.setIfInBounds_toArray, List.set_cons_zero, List.set_cons_succ])
          refine hand_skip 9 (some 26) (by kernel_rfl) (by kernel_rfl) (by kernel_rfl) (by kernel_rfl) (by kernel_rfl) (fun _ _ _ h => h) (by assumption) ?_
          (try simp only [Act.put, List.setIfInBounds_toArray, List.set_cons_zero, List.set_cons_succ])
          refine hand_take 10 (some 27) ?_ (by kernel_rfl) (by kernel_rfl) (by kernel_rfl) (by kernel_rfl) (by kernel_rfl) (fun _ _ _ h => h) ?_ (by assumption) ?_
          rotate_left
          · (intro o ho w hSw; (simp only [List.getElem?_toArray, List.getElem?_cons_succ, List.getElem?_cons_zero, Option.some.injEq] at ho); subst ho; (try dsimp only at hSw); go_simp; (first | done | with_reducible rfl))
          (try simp only [Act.put, List.setIfInBounds_toArray, List.set_cons_zero, List.set_cons_succ])
          refine wpAnyH_done (by kernel_rfl) ?_ _
          have HRW := HRW0
          clear HRW0 HS0
          generalize wr.drew = wx at HRW ⊢
          have hqx := HQ.out.below HRW.out
          have hbe : Below wx.heap.size wx (wx.alloc (.cells #[] 29)) := (Below.refl _ _).alloc (Nat.le_refl _) _
          have HE := kept (rev_empty (t := 29) (Nat.le_refl wx.heap.size) rfl)
          have HP1 : Hid ((rvC (qs.take 0)).length = 0 * 2 ∧ ∀ q u, (rvC (qs.take 0))[q]? = some u → (wx.alloc (.cells #[] 29)).cell? ⟨g, q, none⟩ = some u) := kept (by
            have h := (hqx.below hbe).part 0 0 (Nat.zero_le _) (Nat.zero_le _)
            simpa only [Nat.zero_mul, Nat.zero_add, Nat.sub_zero, List.drop_zero] using h)
          have HBE := kept hbe
          have HQX := kept (hqx)
          have hmj' : 0 ≤ j := Nat.zero_le _
          have hmc : 0 ≤ co := by omega
          clear hbe hqx
          go_wp2_with (first | (at_builtin; refine wpList_append_h rfl _ _ 41 rfl 29 rfl rfl Tryz.underlying41 revinfo rfl (by decide) (by decide) HE.out (ys := rvC (qs.take 0)) HP1.out.1 (fun h0 => ⟨_, rfl, fun j u hj => by rw [gadd_at, Nat.zero_add]; exact HP1.out.2 j u hj⟩) (rvC_one _) (by omega) HBE.out.size ?_; intro A8 c8 w8 h8 g8; rw [List.nil_append, Nat.zero_add] at h8; (try simp only [Nat.zero_add, Nat.sub_zero]); have HP8 := kept h8; have HB8 := kept (bel_grown HBE.out (Nat.le_refl _) HE.out g8); obtain ⟨r0, r1⟩ := HZ.out.keeps (Keeps.of_below (bel_to HB8.out HRW.out)); have hba8 : Below w8.heap.size w8 (w8.alloc (.cells #[.int .i64 z.1, .int .i64 z.2] 29)) := (Below.refl _ _).alloc (Nat.le_refl _) _; have HP8A := kept (gown_turned HP8.out (Turned.of_below hba8 (fun _ => False)) (fun _ _ e => e)); have HBK := kept (Blk.new w8 29 #[.int .i64 z.1, .int .i64 z.2]); have HB8A := kept (bel_to hba8 HB8.out); clear h8 g8 hba8) | (at_builtin; refine wpList_append_h rfl _ _ 41 rfl 29 rfl rfl Tryz.underlying41 revinfo rfl (by decide) (by decide) HP8A.out (ys := [.int .i64 z.1, .int .i64 z.2]) rfl (fun _ => ⟨_, rfl, fun j u hj => by rw [gadd_at, Nat.zero_add]; exact (HBK.out.cell j).trans hj⟩) (by intro u hu; simp only [List.mem_cons, List.not_mem_nil, or_false] at hu; rcases hu with rfl | rfl <;> rfl) (by omega) HB8A.out.size ?_; intro A9 c9 w9 h9 g9; have HP9 := kept h9; have HB9 := kept (bel_grown HB8A.out (Nat.le_refl _) HP8A.out g9); have HS9 := kept ((HQX.out.below HB9.out).part 0 j hmj' (Nat.le_refl _)); clear h9 g9) | (at_builtin; refine wpList_append_h rfl _ _ 41 rfl 29 rfl rfl Tryz.underlying41 revinfo rfl (by decide) (by decide) HP9.out (m := j) (ys := rvC ((qs.take j).drop 0)) HS9.out.1 (fun h0 => ⟨⟨g, 0, none⟩, by first | rfl | simp, fun j u hj => by rw [gadd_at]; have := HS9.out.2 j u hj; simpa using this⟩) (rvC_one _) (by omega) HB9.out.size ?_; intro A10 c10 w10 h10 g10; have HP10 := kept h10; have HB10 := kept (bel_grown HB9.out (Nat.le_refl _) HP9.out g10); clear h10 g10))
          all_goals
            have hln10 : 0 + 1 + j = j + 1 := by omega
            have hp10 := HP10.out
            rw [hln10] at hp10
            obtain ⟨g10, rfl, _⟩ := gown_at hp10 (by omega)
            have HREL : Hid (Below W0.heap.size W0 w10 ∧ ∃ qs, OutV w w.heap.size g10 (j + 1) c10 qs w10) := kept ⟨bel_to HB10.out (bel_to HRW.out HBW1.out), qs.take 0 ++ [z] ++ (qs.take j).drop 0, own_mono3 (by rw [rvC_append, rvC_append]; exact hp10) (Nat.le_trans HQ.out.bel.size HRW.out.size), by have h0 := HQ.out.bel; exact bel_to HB10.out (bel_to HRW.out h0), rfl⟩
            go_roundw
            case rel => exact ⟨j + 1, g10, c10, by have := HJ.out; omega, by go_num, by first | rfl | rw [hln10], HREL⟩
            case measure => have := HJ.out; simp [intOf]; omega
    · obtain rfl : j = n := by omega
      have HF := kept HI.out.2
      clear HI
      go_wp2
      go_returns
      obtain ⟨qs, hq⟩ := HF.out
      exact ⟨_, _, _, qs, rfl, hq.own, Nat.le_refl _, hq.bel⟩
end Go.Proofs.YtlckeebbjnhejaaGreat
end

section
/-
  The document's own index: what is kept (Keep).
-/
namespace Go.Proofs.YtlckeebbjnhejaaGreat
open Go.ChangeShapes Go.WideShapes Go.ChangeAt Go.RowKit Go.Deep
set_option linter.unusedVariables false
set_option linter.unusedSimpArgs false

theorem DKAt.rof {w : World} {B N : Nat} {K : DK} (h : DKAt w B N K) {p : Addr} (hc : w.cell? p = some (.slice K.G K.gn K.gk)) : ROf w p K.gn := by
  refine ⟨K.G, K.gk, hc, fun j hj => ?_⟩
  obtain ⟨g, e, _, hgl, _, _, hcc⟩ := gown_at h.ent (by omega)
  have hl : j < K.I.length := by rw [renC_len h.ent]; exact hj
  have hr := fun q (hq : q < 5) => renC_at K.I j hl q hq
  exact ⟨g, K.I[j], e, hgl, hcc _ _ (hr 0 (by omega)), hcc _ _ (hr 1 (by omega)), hcc _ _ (hr 2 (by omega)), hcc _ _ (hr 3 (by omega)), hcc _ _ (hr 4 (by omega))⟩
set_option maxHeartbeats 4000000 in
theorem xkeep_any {w : World} {B x N n k : Nat} {A : Option Addr} {m s : Int} {Ks : List DK} (h : RXs w B x N A n k m s Ks) (hN : N ≤ 800000) (at_ : Int) :
    Calls Tryz.prog 39 #[.pointer (some ⟨x, 0, none⟩), .int .i64 at_] w (XRevs w N) := by
  have hb0 := (Below.refl _ w).alloc (Nat.le_refl _) (.cells #[] 29)
  have HX := kept h
  have x0 := (h.below hb0).box.cell 0
  have H0 : Hid (∃ qs, OutV w w.heap.size w.heap.size 0 0 qs (w.alloc (.cells #[] 29))) := kept ⟨[], rev_empty (Nat.le_refl _) rfl, hb0, rfl⟩
  have hnN := h.nN
  clear h hb0
  go_enter Tryz.func39, Tryz.ntmps39
  go_wp2
  generalize w.alloc (.cells #[] 29) = W0 at H0 x0 ⊢
  go_loopw [16, 5] (fun i o wr => ∃ (j g no co : Nat), j ≤ n ∧ no ≤ j ∧ i = .int .i64 (j : Int) ∧ o = .slice (some ⟨g, 0, none⟩) no co ∧ Hid (∃ qs, OutV w w.heap.size g no co qs wr)) (fun i _ _ => n - (intOf i).toNat)
  case atStart => exact ⟨0, w.heap.size, 0, 0, Nat.zero_le _, Nat.le_refl _, rfl, rfl, H0⟩
  case round =>
    obtain ⟨j, g, no, co, hj, hno, rfl, rfl, HI⟩ := hrel
    clear H0 x0
    have hj0 : (0 : Int) ≤ (j : Int) := by omega
    by_cases hjn : j < n
    · have hjn' : (j : Int) < (n : Int) := by omega
      have hwj : wrap64 ((j : Int) + 1) = (j : Int) + 1 := IntWalk.wrap64_in _ ⟨by omega, by omega⟩
      obtain ⟨qs, hqs⟩ := HI.out
      have hbw := hqs.bel
      obtain ⟨gk, Ky, hA, hK, k0, k1, hat⟩ := (HX.out.below hbw).key hjn
      subst hA
      have hb1 : Below wr.heap.size wr (wr.alloc (.cells #[.slice Ky.A Ky.n Ky.c, .slice Ky.G Ky.gn Ky.gk] 122)) := (Below.refl _ wr).alloc (Nat.le_refl _) _
      have hk := Blk.new wr 122 #[.slice Ky.A Ky.n Ky.c, .slice Ky.G Ky.gn Ky.gk]
      have hat1 : DKAt (wr.alloc (.cells #[.slice Ky.A Ky.n Ky.c, .slice Ky.G Ky.gn Ky.gk] 122)) B N Ky := hat.turned (Turned.of_below hb1 (fun _ => False)) (fun _ _ e => e) (fun _ _ e => e)
      have HG := kept (rget_at (hat1.rof (p := ⟨wr.heap.size, 1, none⟩) (hk.cell 1)) (by have := hat.gl; omega) at_)
      have HQ := kept (hqs.below hb1)
      have HJ := kept (And.intro hjn hno)
      have hnb : no ≤ 800000 := by omega
      clear hb1 hk hat1 hat hqs hbw HI hjn hj hK hno
      go_wp2_with fail
      generalize wr.alloc (.cells #[.slice Ky.A Ky.n Ky.c, .slice Ky.G Ky.gn Ky.gk] 122) = W1 at HG HQ ⊢
      with_reducible refine HG.out.mono ?_
      rintro e w2 ⟨y, ok, rfl, hb⟩
      have hb3 : Below w2.heap.size w2 (w2.alloc (.cells #[.int .i64 y.a, .int .i64 y.b, .bool y.t, .int .i64 y.c, .int .i64 y.v] 124)) := (Below.refl _ w2).alloc (Nat.le_refl _) _
      cases ok
      · have HR : Hid (∃ qs, OutV w w.heap.size g no co qs (w2.alloc (.cells #[.int .i64 y.a, .int .i64 y.b, .bool y.t, .int .i64 y.c, .int .i64 y.v] 124))) := kept ⟨qs, (HQ.out.below hb).below hb3⟩
        clear hb hb3 HG
        go_wp2
        go_roundw
        case rel => exact ⟨j + 1, g, no, co, by have := HJ.out; omega, by have := HJ.out; omega, by go_num, rfl, HR⟩
        case measure => have := HJ.out; simp [intOf]; omega
      · have hb4 : Below w2.heap.size w2 ((w2.alloc (.cells #[.int .i64 y.a, .int .i64 y.b, .bool y.t, .int .i64 y.c, .int .i64 y.v] 124)).alloc (.cells #[.int .i64 y.a, .int .i64 y.b] 29)) := hb3.alloc (by simp) _
        have HBK : Hid (Blk ((w2.alloc (.cells #[.int .i64 y.a, .int .i64 y.b, .bool y.t, .int .i64 y.c, .int .i64 y.v] 124)).alloc (.cells #[.int .i64 y.a, .int .i64 y.b] 29)) (w2.heap.size + 1) 29 [.int .i64 y.a, .int .i64 y.b]) := kept (by
          have := Blk.new (w2.alloc (.cells #[.int .i64 y.a, .int .i64 y.b, .bool y.t, .int .i64 y.c, .int .i64 y.v] 124)) 29 #[.int .i64 y.a, .int .i64 y.b]
          rwa [World.size_alloc] at this)
        have HQ4 := kept ((HQ.out.below hb).below hb4)
        clear hb hb3 hb4 HG
        go_wp2_with (first | (at_builtin; refine wpList_append_h rfl _ _ 41 rfl 29 rfl rfl Tryz.underlying41 revinfo rfl (by decide) (by decide) HQ4.out.own (ys := [.int .i64 y.a, .int .i64 y.b]) rfl (fun _ => ⟨_, rfl, fun j u hj => by rw [gadd_at, Nat.zero_add]; exact (HBK.out.cell j).trans hj⟩) (by intro u hu; simp only [List.mem_cons, List.not_mem_nil, or_false] at hu; rcases hu with rfl | rfl <;> rfl) (by omega) HQ4.out.bel.size ?_; intro A9 c9 w9 h9 g9; have hown9 := h9; obtain ⟨g9', rfl, _⟩ := gown_at hown9 (by omega); have HR : Hid (∃ qs, OutV w w.heap.size g9' (no + 1) c9 qs w9) := kept ⟨qs ++ [(y.a, y.b)], by rw [rvC_append]; exact h9, HQ4.out.bel.grown g9 HQ4.out.bel.size (fun q hq => (gown_lt HQ4.out.own hq).1), rfl⟩; clear h9 g9 hown9))
        go_roundw
        case rel => exact ⟨j + 1, g9', no + 1, c9, by have := HJ.out; omega, by have := HJ.out; omega, by go_num, rfl, HR⟩
        case measure => have := HJ.out; simp [intOf]; omega
    · obtain rfl : j = n := by omega
      obtain ⟨qs, hqs⟩ := HI.out
      have HSO := kept (sorted_any (c := co) (RdR.of_own hqs.own) (by omega))
      have HB := kept hqs.bel
      have HLE := kept (Nat.le_trans hno hnN)
      clear hqs HI
      go_wp2_with fail
      with_reducible refine HSO.out.mono ?_
      rintro e w2 ⟨A2, n2, c2, ps2, rfl, hown, hn2, hb⟩
      have HF := kept (And.intro (own_mono3 hown HB.out.size) (And.intro (Nat.le_trans hn2 HLE.out) (bel_to hb HB.out)))
      clear hown hn2 hb
      go_wp2
      go_returns
      exact ⟨A2, n2, c2, ps2, rfl, HF.out.1, HF.out.2.1, HF.out.2.2⟩
end Go.Proofs.YtlckeebbjnhejaaGreat
end
