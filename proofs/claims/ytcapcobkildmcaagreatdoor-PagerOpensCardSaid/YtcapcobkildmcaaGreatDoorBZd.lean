/- Zd Ze -/
import Derived.Test.YtcapcobkildmcaaGreatDoorBQr
import Derived.Test.YtcapcobkildmcaaGreatDoorBRfg
import Derived.Test.YtcapcobkildmcaaGreatDoorBRok
import Derived.Test.YtcapcobkildmcaaGreatDoorBMr
import Derived.Test.YtcapcobkildmcaaGreatDoorBZb
import Derived.Test.YtcapcobkildmcaaGreatDoorBFk
import Derived.Deep.LoopGhost
section
namespace Go.Proofs.YtcapcobkildmcaaGreatDoor
open Go.ChangeShapes Go.WideShapes Go.ChangeAt Go.RowKit
set_option linter.unusedVariables false
set_option linter.unusedSimpArgs false
set_option maxRecDepth 100000
set_option maxHeartbeats 16000000
def putW (S : St) (l : List Sheet) : St := l.foldl (fun S x => S.tryWrite x.1 x.2) S
theorem putW_snoc (S : St) (l : List Sheet) (x : Sheet) : putW S (l ++ [x]) = (putW S l).tryWrite x.1 x.2 := by simp [putW, List.foldl_append]
def Gd (z j : Nat) (S : St) : Prop := S.fuse = -1 ∧ S.pages.length = z ∧ S.done ≤ j
theorem Gd.write {z j : Nat} {S : St} (h : Gd z j S) {p : Int} {xs : List UInt8} (h0 : 0 ≤ p) (h1 : p < (z : Int)) : writeE S p 256 = 0 ∧ Gd z (j + 1) (S.tryWrite p xs) := by
 obtain ⟨f, l, d⟩ := h; have hf : ¬ S.fuse = 0 := by rw [f]; decide
 have hp : ¬ (p < 0 ∨ (S.pages.length : Int) ≤ p) := by rw [l]; omega
 refine ⟨by unfold writeE; rw [if_neg hf, if_neg hp, if_pos rfl], ?_⟩; unfold St.tryWrite; rw [if_neg hf, if_neg hp]; exact ⟨by unfold St.write St.count; simp [f], l, by show S.done + 1 ≤ j + 1; omega⟩
theorem ok_write {S : St} (o : S.ok) {p : Int} {xs : List UInt8} (hx : xs.length = 256) : (S.tryWrite p xs).ok := by
 unfold St.tryWrite
 split
 · exact o
 · split
   · exact o
   · rename_i hf hp
     refine ⟨o.1, o.2.1, fun x ys hc => ?_, ?_, ?_⟩
     · have hc : (if x = p then some xs else S.cache x) = some ys := hc; by_cases hxp : x = p
       · rw [if_pos hxp] at hc; cases hc; subst hxp; refine ⟨by omega, ?_, hx⟩; show x < (S.pages.length : Int); omega
       · rw [if_neg hxp] at hc; exact o.2.2.1 x ys hc
     · have := o.2.2.2.1; show -1 ≤ (if 0 < S.fuse then S.fuse - 1 else S.fuse)
       split <;> omega
     · have := o.2.2.2.2; show (if 0 < S.fuse then S.fuse - 1 else S.fuse) ≤ _
       split <;> omega
theorem putS_putW {z : Nat} : ∀ (l : List Sheet) (j : Nat) (S : St), Gd z j S → (∀ x ∈ l, 0 ≤ x.1 ∧ x.1 < (z : Int)) → putS S l = ((putW S l).trySync, 0)
 | [], j, S, h, _ => by
   show (S.trySync, syncE S) = _; unfold syncE; rw [if_neg (by rw [h.1]; decide)]; rfl
 | x :: r, j, S, h, hl => by
   have hx := hl x (List.mem_cons_self ..); have hw := h.write (xs := x.2) hx.1 hx.2; show (if writeE S x.1 256 = 0 then putS (S.tryWrite x.1 x.2) r else _) = _; rw [if_pos hw.1]; exact putS_putW r (j + 1) _ hw.2 (fun y hy => hl y (List.mem_cons_of_mem _ hy))
theorem Cl.ref {w w' : World} {b base : Nat} {t : TypeId} (h : Cl w b t) (ht : t ≠ 188 ∧ t ≠ 46 ∧ t ≠ 200) (tu : Turned w w' (RefK w base)) : ¬ RefK w base b := fun hk => by
 obtain ⟨_, c, t', fr, hb, h3⟩ := hk; have : t = t' := h.uniq ⟨c, fr, hb⟩; subst this; rcases h3 with h3 | h3 | h3
 · exact ht.1 h3
 · exact ht.2.1 h3
 · exact ht.2.2 h3
theorem OwI.ref {w w' : World} {A : Option Addr} {n c base : Nat} {Z : List Int} (h : OwI w A n c Z) (tu : Turned w w' (RefK w base)) : OwI w' A n c Z :=
 h.turned tu fun g e => (h.cl e).ref (by decide) tu
def RdLn (w : World) (A : Option Addr) (n : Nat) (Q : Nat → Pg) : Prop := 0 < n → ∃ g, A = some ⟨g, 0, none⟩ ∧ Cl w g 197 ∧ ∀ k, k < n → ∃ L : LayR, kPg.R w L (Q k) ∧ ∀ j u, (kPg.cells L)[j]? = some u → w.cell? ⟨g, k * 7 + j, none⟩ = some u
theorem RdLn.ref {w w' : World} {A : Option Addr} {n base : Nat} {Q : Nat → Pg} (h : RdLn w A n Q) (tu : Turned w w' (RefK w base)) : RdLn w' A n Q := fun h0 => by
 obtain ⟨g, e, hc, hk⟩ := h h0; have hgb := tu.block g hc.lt (hc.ref (by decide) tu); refine ⟨g, e, hc.keep hgb, fun k hkn => ?_⟩; obtain ⟨L, hR, hcs⟩ := hk k hkn; refine ⟨L, ⟨hR.1, hR.2.1.turned tu (fun b eb => (hR.2.2 b eb).ref (by decide) tu), fun b eb => (hR.2.2 b eb).keep (tu.block b (hR.2.2 b eb).lt ((hR.2.2 b eb).ref (by decide) tu))⟩, fun j u hu => ?_⟩; have := hcs j u hu; unfold World.cell? at this ⊢; rw [hgb]; exact this
theorem Ow.rdLn {w : World} {base : Nat} {F : Nat → Prop} {A : Option Addr} {n c t : Nat} {C I : List Int} (h : Ow kPg w base 197 F A n c (linksL t C I n)) : RdLn w A n (linkP t C I) := fun h0 => by
 have hat := fun k (hk : k < n) => h.at_ hk
 obtain ⟨g, L0, hA, _⟩ := hat 0 h0; have hcl : Cl w g 197 := by
  obtain ⟨Ls, h1, h2, ho, hr⟩ := h; rcases ho.2 with ⟨hv, _⟩ | ⟨g', cap, cur, hv, hb, hh, _⟩
  · injection hv with hv; rw [hA] at hv; cases hv
  · injection hv with hv
    rw [hA] at hv; cases hv; exact ⟨_, _, hh⟩
 refine ⟨g, hA, hcl, fun k hk => ?_⟩; obtain ⟨g', L, hA', _, _, hR, hc⟩ := hat k hk; rw [hA] at hA'; cases hA'; rw [linksL_get] at hR; exact ⟨L, hR, hc⟩
def Fo (w : World) (base r z j : Nat) (S : St) (wr : World) : Prop := ∃ R, RefD wr base r R ∧ Sim S R ∧ Gd z j S ∧ S.ok ∧ Turned w wr (RefK w base)
theorem Fo.below {w wr w2 : World} {base r z j : Nat} {S : St} (h : Fo w base r z j S wr) (hb : Below wr.heap.size wr w2) : Fo w base r z j S w2 := by
 obtain ⟨R, h1, h2, h3, h4, h5⟩ := h; exact ⟨R, h1.below hb, h2, h3, h4, h5.trans (Turned.of_below hb _)⟩
theorem Fo.write {w wr : World} {base r z j : Nat} {S : St} (h : Fo w base r z j S wr) (p : Int) (A : Option Addr) (cp : Nat) (xs : List UInt8) (h0 : 0 ≤ p) (h1 : p < (z : Int)) (hr : Rd wr A 256 xs) (hj : j ≤ 10000) :
 Calls Tryz.prog 38 #[.pointer (some ⟨r, 0, none⟩), .int .i64 p, .slice A 256 cp] wr fun e w' => e = .returned (.int .i64 0) ∧ Hid (Fo w base r z (j + 1) (S.tryWrite p xs) w' ∧ Turned wr w' (RefK wr base)) := by
 obtain ⟨R, k1, k2, k3, k4, k5⟩ := h; have hw := k3.write (xs := xs) h0 h1; have hc := rwrite_any base r S R p A cp xs wr k1 k2 hr (by have := k3.2.2; omega); rw [hw.1] at hc; refine hc.mono ?_; rintro e w' ⟨rfl, hl⟩; obtain ⟨R', m1, m2, m3⟩ := hl.out; exact ⟨rfl, kept ⟨⟨R', m1, m2, hw.2, ok_write k4 hr.1, k5.ref_trans m3⟩, m3⟩⟩
def FmR (w : World) (z k : Nat) (A : Option Addr) (c : Nat) (wr : World) : Prop := OwI wr A k c ((allIds z).take k) ∧ Below w.heap.size w wr ∧ ∀ g, blkOf A = some g → w.heap.size ≤ g
theorem fmr_next {w wr w4 : World} {z j : Nat} {A A4 : Option Addr} {c c4 : Nat} {o : Obj} (h : FmR w z j A c wr) (hk : (allIds z).take (j + 1) = (allIds z).take j ++ [((j + 2 : Nat) : Int)]) (h4 : OwI w4 A4 (j + 1) c4 ((allIds z).take j ++ [(j : Int) + 2])) (t4 : Turned (wr.alloc o) w4 (fun i => blkOf A = some i)) (g4 : ∀ g, blkOf A4 = some g → blkOf A = some g ∨ (wr.alloc o).heap.size ≤ g) : FmR w z (j + 1) A4 c4 w4 := by
 have hb : Below w.heap.size w (wr.alloc o) := h.2.1.alloc h.2.1.size _; refine ⟨by rw [hk]; exact h4, t4.only_new hb hb.size (fun i hi => h.2.2 i hi), fun g e => ?_⟩; rcases g4 g e with k | k
 · exact h.2.2 g k
 · exact Nat.le_trans hb.size k
theorem renc0 (z : Nat) (h : rightM (meta0 z) = true) (W : World) :
 Calls Tryz.prog 84 #[.agg #[.int .u64 0, .int .i64 0, .int .i64 0, .int .i64 (z : Int)]] W fun e w' => ∃ A c, e = .returned (.slice A 256 c) ∧ Hid (Rd w' A 256 (sealed (bodyM (meta0 z)))) ∧ Below W.heap.size W w' :=
 Calls.mono (refEncode_m (meta0 z) W (by show (0 : Nat) < _; omega) h) fun e w' ⟨A, c, h1, h2, h3⟩ => ⟨A, c, h1, kept (OwB.of_row h2).rd, h3⟩
theorem renc1 (z : Nat) (h : rightM (meta1 z) = true) (W : World) :
 Calls Tryz.prog 84 #[.agg #[.int .u64 1, .int .i64 0, .int .i64 2, .int .i64 (z : Int)]] W fun e w' => ∃ A c, e = .returned (.slice A 256 c) ∧ Hid (Rd w' A 256 (sealed (bodyM (meta1 z)))) ∧ Below W.heap.size W w' :=
 Calls.mono (refEncode_m (meta1 z) W (by show (1 : Nat) < _; omega) h) fun e w' ⟨A, c, h1, h2, h3⟩ => ⟨A, c, h1, kept (OwB.of_row h2).rd, h3⟩
theorem rencP {W : World} {L : LayR} {C I : List Int} {k : Nat} (h : kPg.R W L (linkP 1 C I k)) (hI : Rising I) (hb : ∀ x ∈ I, isPg x = true) (hC : ∀ x ∈ C, isPg x = true) :
 L.t = 1 ∧ L.nx = headN (C.drop (k + 1)) ∧ ∀ W', Below W.heap.size W W' → Calls Tryz.prog 86 #[.agg #[.int .i64 4, .int .u64 1, .int .i64 L.nx, .slice none 0 0, .slice none 0 0, .slice none 0 0, .slice L.a L.n L.c]] W' fun e w' => ∃ A c, e = .returned (.slice A 256 c) ∧ Hid (Rd w' A 256 (sealed (bodyOf (linkP 1 C I k)))) ∧ Below W'.heap.size W' w' := by
 obtain ⟨t, nx, a, n, c⟩ := L; obtain ⟨h1, h2, h3⟩ := h; have e1 : ((1 : Nat) : Int) = (t : Int) := congrArg Pg.txn h1; have e2 : headN (C.drop (k + 1)) = nx := congrArg Pg.next h1; obtain rfl : 1 = t := by exact_mod_cast e1
 subst e2; have hl : ((I.drop (59 * k)).take 59).length ≤ 59 := List.length_take_le ..; have hR : rightB (linkP 1 C I k) = true := right_spare (headN_ok fun x hx => hC x (List.mem_of_mem_drop hx)) ((hI.sublist (List.drop_sublist _ _)).sublist (List.take_sublist _ _)) (fun x hx => hb x (List.mem_of_mem_drop (List.mem_of_mem_take hx))) hl; have hn : n ≤ 59 := by have e : ((I.drop (59 * k)).take 59).length = n := h2.1; omega
 refine ⟨rfl, rfl, fun W' hW => Calls.mono (refEncode04_any ⟨4, ((1 : Nat) : Int), headN (C.drop (k + 1)), none, 0, 0, none, 0, 0, none, 0, 0, a, n, c⟩ _ W' (rd_spare (h2.below hW) (by omega) (by omega)) hR (by show (0 : Nat) ≤ _; omega) (by show (0 : Nat) ≤ _; omega) (by show n ≤ _; omega)) fun e w' ⟨A, c, h1, h2, h3⟩ => ⟨A, c, h1, kept (OwB.of_row h2).rd, h3⟩⟩
theorem rformat_any (base r z : Nat) (R : RSt) (w : World) (h : RefD w base r R) (hs : Sim (fresh z) R) (hz8 : 8 ≤ z) (hz1024 : z ≤ 1024) :
 Calls Tryz.prog 37 #[.pointer (some ⟨r, 0, none⟩)] w fun e w' => e = .returned (.int .i64 0) ∧ Hid (RLeft w base r (formatted z) w') := by
 have HFO : Hid (∀ W, Below w.heap.size w W → Fo w base r z 0 (fresh z) W) := kept (fun W hb => ⟨R, h.below hb, hs, ⟨rfl, fresh_len z, Nat.le_refl _⟩, ⟨by rw [fresh_len]; omega, by rw [fresh_len]; omega, (fun x xs e => by cases e), by show (-1 : Int) ≤ -1; omega, by show (-1 : Int) ≤ _; omega⟩, Turned.of_below hb _⟩); obtain ⟨pg, pc, cA, cc, hc0, hc1, hc2, hc3, hc4⟩ := h.cells; have hRl : R.pages.length = z := by rw [hs.pages]; exact fresh_len z
 rw [hRl] at hc0; obtain ⟨n, hn⟩ : ∃ n, z - 2 = n := ⟨_, rfl⟩
 have hzn : n + 2 = z := by omega
 obtain ⟨k, hk⟩ : ∃ k, needN n = k := ⟨_, rfl⟩
 have hkz : k ≤ n ∧ 1 ≤ k := by have := needN_le n (by omega); omega
 have hkn : k ≤ n := hkz.1; have HNE := fun W => kept (rneed_any n W (by omega))
 rw [hk] at HNE; have hm := meta_right z hz8 hz1024; have HM0 := fun W => kept (renc0 z hm.1 W)
 have HM1 := fun W => kept (renc1 z hm.2 W)
 have HFL : Hid (formatL z = [(0, sealed (bodyM (meta0 z))), (1, sealed (bodyM (meta1 z)))] ++ layC 1 ((allIds z).take k) ((allIds z).drop k)) := kept (by unfold formatL; rw [hn, hk]); have HIB : Hid (∀ x ∈ allIds z, isPg x = true) := kept (fun x hx => by have := mem_allIds.1 hx; simp [isPg]; omega); have HLN := fun (W : World) (A B : Option Addr) (c d : Nat) (r1 : RdI W A k ((allIds z).take k)) (r2 : RdI W B (n - k) ((allIds z).drop k)) => kept (rlinks_any 1 k c (n - k) d A B ((allIds z).take k) ((allIds z).drop k) W r1 r2 (by omega) (by omega) (by omega))
 have H0 : Hid (FmR w z 0 (some ⟨w.heap.size, 0, none⟩) 0 (w.alloc (.cells #[] 3))) := kept ⟨OwI.none_new w, (Below.refl _ _).alloc (Nat.le_refl _) _, fun g e => by cases e; exact Nat.le_refl _⟩; clear h hs hc1 hc2 hc3 hc4 hm hn hk hRl; go_enter Tryz.func37, Tryz.ntmps37; go_wp2; clear hc0; go_loopw [4, 5] (fun ps i wr => ∃ (j : Nat) (A : Option Addr) (c : Nat), j ≤ n ∧ i = .int .i64 ((j : Int) + 2) ∧ ps = .slice A j c ∧ Hid (FmR w z j A c wr)) (fun _ i _ => z - (intOf i).toNat)
 case atStart => exact ⟨0, _, 0, Nat.zero_le _, by simp, rfl, H0⟩
 case round =>
  obtain ⟨j, A, c, hj, rfl, rfl, HL⟩ := hrel; clear H0; by_cases hlt : j < n
  · have hin : (j : Int) + 2 < (z : Int) := by omega
    have hwj : IntKind.i64.wrap ((j : Int) + 2 + 1) = (j : Int) + 2 + 1 := by simp [IntKind.wrap_i64]; omega
    have HTK := kept (allIds_take z j (by omega)); have hjm : j + 1 ≤ 1000000 := by omega
    go_wp2_with (first | (at_builtin; refine wpList_append_i rfl _ _ rfl rfl rfl (HL.out.1.alloc _) (RdI.oneI wr ((j : Int) + 2)) hjm ?_; intro A4 c4 w4 h4 t4 g4; have HE : Hid (FmR w z (j + 1) A4 c4 w4) := kept (fmr_next HL.out HTK.out h4 t4 g4); clear h4 t4 g4))
    go_roundw
    case rel => exact ⟨j + 1, A4, c4, by omega, by simp; omega, rfl, HE⟩
    case measure => simp [intOf]; omega
  · obtain rfl : j = n := by omega
    have hcmp : ¬ ((j : Int) + 2 < (z : Int)) := by omega
    have HAL : Hid ((allIds z).take j = allIds z) := kept (List.take_of_length_le (by rw [allIds_length]; omega)); have HB0 := kept HL.out.2.1; have HF0 := kept (HFO.out wr HL.out.2.1); have HO0 : Hid (OwI wr A j c (allIds z)) := kept (HAL.out ▸ HL.out.1); clear HFO; go_wp2_with fail
    with_reducible refine (HNE _).out.mono ?_
    rintro e w1 ⟨rfl, rfl⟩; clear HNE; go_wp2_with fail
    with_reducible refine (HM0 _).out.mono ?_
    rintro e w2 ⟨A2, c2, rfl, hr2, hb2⟩; have HW2 := kept ((HF0.out.below hb2).write 0 A2 c2 _ (by omega) (by omega) hr2.out (by omega)); have HO2 := kept (HO0.out.below hb2); clear hb2 hr2; go_wp2_with fail
    with_reducible refine HW2.out.mono ?_
    rintro e w3 ⟨rfl, h3⟩; have HF3 := kept h3.out.1; have HO3 := kept (HO2.out.ref h3.out.2); clear h3; go_wp2_with fail
    with_reducible refine (HM1 _).out.mono ?_
    rintro e w4 ⟨A4, c4, rfl, hr4, hb4⟩; have HW4 := kept ((HF3.out.below hb4).write 1 A4 c4 _ (by omega) (by omega) hr4.out (by omega)); have HO4 := kept (HO3.out.below hb4); clear hb4 hr4; go_wp2_with fail
    with_reducible refine HW4.out.mono ?_
    rintro e w5 ⟨rfl, h5⟩; have HF5 := kept h5.out.1; have HO5 := kept (HO4.out.ref h5.out.2); clear h5 HW2 HW4 HO0 HO2 HO3 HO4 HF0 HF3; obtain ⟨g, hA⟩ := HO5.out.head (by omega); subst hA; have hjc : j ≤ c := HO5.out.cap; obtain ⟨P, hP⟩ : ∃ P, (if c = k then some (⟨g, 0, none⟩ : Addr) else some ⟨g, k, none⟩) = P := ⟨_, rfl⟩
    have HL5 : Hid (Calls Tryz.prog 85 #[.slice (some ⟨g, 0, none⟩) k c, .slice P (j - k) (c - k), .int .u64 1] w5.drew fun e w' => ∃ A' c', e = .returned (.slice A' k c') ∧ Hid (Ow kPg w' w5.drew.heap.size 197 (fun _ => False) A' k c' (linksL 1 ((allIds z).take k) ((allIds z).drop k) k) ∧ Below w5.drew.heap.size w5.drew w')) := kept (by
     have hr := (HO5.out.below (Below.refl _ w5).drew).reads; have hcut := hr.cut (k := k) hkn hjc; rw [Nat.zero_add, hP] at hcut; exact (HLN w5.drew _ _ c (c - k) (hr.take hkn) hcut).out)
    have hk0 : (0 : Int) ≤ (k : Int) := by omega
    have hk1 : (k : Int) ≤ (j : Int) := by omega
    have hk2 : (k : Int) ≤ (c : Int) := by omega
    have hk3 : (j : Int) ≤ (c : Int) := by omega
    have hkc : k ≤ c := by omega
    clear HLN; go_upto_region 11 with fail
    refine wp_region_held_drew (S := (fun _ => True)) (by kernel_rfl) ?_ (fun hHeld => ?_)
    · ((try dsimp only); (first | done | exact trivial))
    refine hT 0 (some 40) ?_; refine hT 1 (some 41) ?_; refine hT 2 (some 42) ?_; refine hT 3 (some 43) ?_; refine hT 4 (some 44) ?_; refine hT 5 (some 45) ?_; refine hT 8 (some 48) ?_; refine hR 6 (fun K hK => ?_); go_simp
    ((go_at_call 85; (with_reducible refine HL5.out.mono ?_); rintro e w6 ⟨A6, c6, rfl, h6⟩))
    (try go_wp2_with fail); refine hK.out _ _ ?_ (fun hHeld => ?_)
    · ((try dsimp only); (first | done | exact trivial))
    clear hK K; (try simp only [Act.put, hA, h0, h1]); refine hT 7 (some 47) ?_; refine wpAnyH_done (by kernel_rfl) ?_ _; have HR6 := kept h6.out.1.rdLn; have HF6 := kept (HF5.out.below (Below.trans (Below.refl _ w5).drew h6.out.2)); have HO6 := kept (HO5.out.below (Below.trans (Below.refl _ w5).drew h6.out.2)); clear h6 HL5 HF5 HO5; have HS6 : Hid (Fo w base r z (2 + 0) (putW (fresh z) ([(0, sealed (bodyM (meta0 z))), (1, sealed (bodyM (meta1 z)))] ++ (layC 1 ((allIds z).take k) ((allIds z).drop k)).take 0)) w6 ∧ OwI w6 (some ⟨g, 0, none⟩) j c (allIds z) ∧ RdLn w6 A6 k (linkP 1 ((allIds z).take k) ((allIds z).drop k))) := kept ⟨by simpa [putW] using HF6.out, HO6.out, HR6.out⟩; clear HF6 HO6 HR6; go_wp2; go_loopw [7, 48] (fun e i wr => ∃ (q : Nat), q ≤ k ∧ i = .int .i64 (q : Int) ∧ e = .int .i64 0 ∧ Hid (Fo w base r z (2 + q) (putW (fresh z) ([(0, sealed (bodyM (meta0 z))), (1, sealed (bodyM (meta1 z)))] ++ (layC 1 ((allIds z).take k) ((allIds z).drop k)).take q)) wr ∧ OwI wr (some ⟨g, 0, none⟩) j c (allIds z) ∧ RdLn wr A6 k (linkP 1 ((allIds z).take k) ((allIds z).drop k)))) (fun _ i _ => k - (intOf i).toNat)
    case atStart => exact ⟨0, Nat.zero_le _, rfl, rfl, HS6⟩
    case round =>
     obtain ⟨q, hq, rfl, rfl, HX⟩ := hrel
     rename World => wx
     clear HS6; by_cases hlq : q < k
     · obtain ⟨hfo, hoa, hrl⟩ := HX.out; obtain ⟨gl, hgl, hcl, hat⟩ := hrl (by omega); obtain ⟨L, hLR, hLc⟩ := hat q hlq; obtain ⟨e1, e2, hen⟩ := rencP hLR ((allIds_rising z).sublist (List.drop_sublist _ _)) (fun x hx => HIB.out x (List.mem_of_mem_drop hx)) (fun x hx => HIB.out x (List.mem_of_mem_take hx)); obtain ⟨lt, lnx, la, ln, lc⟩ := L; simp only at e1 e2 hen; subst e1; obtain ⟨nx, hnx⟩ : ∃ nx, lnx = nx := ⟨_, rfl⟩
       clear e2; subst hnx; have y0 : wx.cell? ⟨gl, q * 7, none⟩ = some (.int .i64 4) := hLc 0 _ rfl; have y1 : wx.cell? ⟨gl, q * 7 + 1, none⟩ = some (.int .u64 1) := hLc 1 _ rfl; have y2 : wx.cell? ⟨gl, q * 7 + 2, none⟩ = some (.int .i64 lnx) := hLc 2 _ rfl; have y3 : wx.cell? ⟨gl, q * 7 + 3, none⟩ = some (.slice none 0 0) := hLc 3 _ rfl; have y4 : wx.cell? ⟨gl, q * 7 + 4, none⟩ = some (.slice none 0 0) := hLc 4 _ rfl; have y5 : wx.cell? ⟨gl, q * 7 + 5, none⟩ = some (.slice none 0 0) := hLc 5 _ rfl; have y6 : wx.cell? ⟨gl, q * 7 + 6, none⟩ = some (.slice la ln lc) := hLc 6 _ rfl; have HFX := kept hfo; have HOX := kept hoa; have HRX := kept hrl; have HEN := kept hen; obtain ⟨id, hid, hidr, hlc⟩ : ∃ id : Int, (allIds z)[q]? = some id ∧ (2 ≤ id ∧ id < (z : Int)) ∧ (layC 1 ((allIds z).take k) ((allIds z).drop k)).take (q + 1) = (layC 1 ((allIds z).take k) ((allIds z).drop k)).take q ++ [(id, sealed (bodyOf (linkP 1 ((allIds z).take k) ((allIds z).drop k) q)))] := by
        have hql : q < (allIds z).length := by rw [allIds_length]; omega
        refine ⟨(allIds z)[q], List.getElem?_eq_getElem hql, mem_allIds.1 (List.getElem_mem hql), ?_⟩; have := layC_get 1 ((allIds z).take k) ((allIds z).drop k) q (by rw [List.length_take, allIds_length]; omega); rw [List.take_add_one, this, List.getElem_take]; rfl
       have HIR := kept hidr; have HLC := kept hlc; have HID := kept hid; have hid2 : wx.cell? ⟨g, q, none⟩ = some (.int .i64 id) := by
        have := hoa.cell rfl (j := q) (by omega); rw [List.getElem?_eq_getElem (by rw [allIds_length]; omega)] at hid; rw [this, Option.some.inj hid]
       have hqj : (q : Int) < (j : Int) := by omega
       have hqk : (q : Int) < (k : Int) := by omega
       subst hgl; clear hfo hoa hrl hat hLR hLc hen hcl hidr hlc hid HX; go_wp2; obtain ⟨W7, hW7⟩ : ∃ W7, W7 = wx.alloc (.cells #[.int .i64 4, .int .u64 1, .int .i64 lnx, .slice none 0 0, .slice none 0 0, .slice none 0 0, .slice la ln lc] 197) := ⟨_, rfl⟩
       have HB7 : Hid (Below wx.heap.size wx W7) := kept (by rw [hW7]; exact (Below.refl _ _).alloc (Nat.le_refl _) _); have HK7 : Hid (Blk W7 wx.heap.size 197 [.int .i64 4, .int .u64 1, .int .i64 lnx, .slice none 0 0, .slice none 0 0, .slice none 0 0, .slice la ln lc]) := kept (by rw [hW7]; exact Blk.new wx 197 #[.int .i64 4, .int .u64 1, .int .i64 lnx, .slice none 0 0, .slice none 0 0, .slice none 0 0, .slice la ln lc]); rw [← hW7]; clear hW7 y0 y1 y2 y3 y4 y5 y6 hid2; have HX7 : Hid (OwI W7.drew (some ⟨g, 0, none⟩) j c (allIds z) ∧ Blk W7.drew wx.heap.size 197 [.int .i64 4, .int .u64 1, .int .i64 lnx, .slice none 0 0, .slice none 0 0, .slice none 0 0, .slice la ln lc]) := kept ⟨HOX.out.below HB7.out.drew, HK7.out.below (Below.refl _ W7).drew HK7.out.lt⟩; have HCE : Hid (∀ W, (OwI W (some ⟨g, 0, none⟩) j c (allIds z) ∧ Blk W wx.heap.size 197 [.int .i64 4, .int .u64 1, .int .i64 lnx, .slice none 0 0, .slice none 0 0, .slice none 0 0, .slice la ln lc]) → (W.cell? ⟨g, q, none⟩ = some (.int .i64 id) ∧ W.cell? ⟨wx.heap.size, 0, none⟩ = some (.int .i64 4) ∧ W.cell? ⟨wx.heap.size, 1, none⟩ = some (.int .u64 1) ∧ W.cell? ⟨wx.heap.size, 2, none⟩ = some (.int .i64 lnx) ∧ W.cell? ⟨wx.heap.size, 3, none⟩ = some (.slice none 0 0) ∧ W.cell? ⟨wx.heap.size, 4, none⟩ = some (.slice none 0 0) ∧ W.cell? ⟨wx.heap.size, 5, none⟩ = some (.slice none 0 0) ∧ W.cell? ⟨wx.heap.size, 6, none⟩ = some (.slice la ln lc))) := kept (fun W h => ⟨by
        have h1 := h.1.cell rfl (j := q) (by omega); have h2 := HID.out; rw [List.getElem?_eq_getElem (by rw [allIds_length]; omega)] at h2; rw [h1, Option.some.inj h2], h.2.cell 0, h.2.cell 1, h.2.cell 2, h.2.cell 3, h.2.cell 4, h.2.cell 5, h.2.cell 6⟩)
       have HENW := kept (HEN.out W7.drew HB7.out.drew); have hS7 := HCE.out _ HX7.out; clear HEN; refine wp_region_held_drew (S := (fun W' => W'.cell? ⟨g, q, none⟩ = some (.int .i64 id) ∧ W'.cell? ⟨wx.heap.size, 0, none⟩ = some (.int .i64 4) ∧ W'.cell? ⟨wx.heap.size, 1, none⟩ = some (.int .u64 1) ∧ W'.cell? ⟨wx.heap.size, 2, none⟩ = some (.int .i64 lnx) ∧ W'.cell? ⟨wx.heap.size, 3, none⟩ = some (.slice none 0 0) ∧ W'.cell? ⟨wx.heap.size, 4, none⟩ = some (.slice none 0 0) ∧ W'.cell? ⟨wx.heap.size, 5, none⟩ = some (.slice none 0 0) ∧ W'.cell? ⟨wx.heap.size, 6, none⟩ = some (.slice la ln lc))) (by kernel_rfl) ?_ (fun hHeld => ?_)
       · ((try dsimp only); (with_reducible first | exact HCE.out _ HX7.out | exact HCE.out _ HX8.out | exact HCE.out _ HX9.out))
       refine hT 0 (some 55) ?_; refine hT 1 (some 56) ?_; refine hT 2 (some 57) ?_; refine hT 3 (some 58) ?_; refine hT 4 (some 59) ?_; refine hT 5 (some 60) ?_; refine hR 6 (fun K hK => ?_); go_simp
       ((go_at_call 86; (with_reducible refine HENW.out.mono ?_); rintro e w8 ⟨A8, c8, rfl, hr8, hb8⟩); have HX8 : Hid (OwI w8 (some ⟨g, 0, none⟩) j c (allIds z) ∧ Blk w8 wx.heap.size 197 [.int .i64 4, .int .u64 1, .int .i64 lnx, .slice none 0 0, .slice none 0 0, .slice none 0 0, .slice la ln lc]) := kept ⟨HX7.out.1.below hb8, HX7.out.2.below hb8 HX7.out.2.lt⟩; have HB8 : Hid (Below wx.heap.size wx w8) := kept (HB7.out.drew.trans (hb8.mono HB7.out.drew.size)); have HW8 := kept ((HFX.out.below HB8.out).write id A8 c8 _ (by have := HIR.out; omega) HIR.out.2 hr8.out (by omega)); clear hr8 hb8)
       (try go_wp2_with fail); refine hK.out _ _ ?_ (fun hHeld => ?_)
       · ((try dsimp only); (with_reducible first | exact HCE.out _ HX7.out | exact HCE.out _ HX8.out | exact HCE.out _ HX9.out))
       clear hK K; (try simp only [Act.put, hA, h0, h1]); refine hR 7 (fun K hK => ?_); go_simp
       ((go_at_call 38; (with_reducible refine HW8.out.mono ?_); rintro e w9 ⟨rfl, h9⟩); have HX9 : Hid (OwI w9 (some ⟨g, 0, none⟩) j c (allIds z) ∧ Blk w9 wx.heap.size 197 [.int .i64 4, .int .u64 1, .int .i64 lnx, .slice none 0 0, .slice none 0 0, .slice none 0 0, .slice la ln lc]) := kept ⟨HX8.out.1.ref h9.out.2, HX8.out.2.ref (by decide) h9.out.2⟩; have HS9 : Hid (Fo w base r z (2 + (q + 1)) (putW (fresh z) ([(0, sealed (bodyM (meta0 z))), (1, sealed (bodyM (meta1 z)))] ++ (layC 1 ((allIds z).take k) ((allIds z).drop k)).take (q + 1))) w9 ∧ OwI w9 (some ⟨g, 0, none⟩) j c (allIds z) ∧ RdLn w9 (some ⟨gl, 0, none⟩) k (linkP 1 ((allIds z).take k) ((allIds z).drop k))) := kept ⟨by rw [HLC.out, ← List.append_assoc, putW_snoc]; exact h9.out.1, HX9.out.1, (HRX.out.ref (Turned.of_below HB8.out (RefK wx base))).ref h9.out.2⟩; clear h9)
       (try go_wp2_with fail); refine hK.out _ _ ?_ (fun hHeld => ?_)
       · ((try dsimp only); (with_reducible first | exact HCE.out _ HX7.out | exact HCE.out _ HX8.out | exact HCE.out _ HX9.out))
       clear hK K; (try simp only [Act.put, hA, h0, h1]); refine hT 8 (some 7) ?_; refine wpAnyH_done (by kernel_rfl) ?_ _; go_wp2; go_roundw
       case rel => exact ⟨q + 1, by omega, by go_num, rfl, HS9⟩
       case measure => simp [intOf]; omega
     · obtain rfl : q = k := by omega
       have hqq : ¬ (q : Int) < (q : Int) := by omega
       obtain ⟨R', k1, k2, k3, k4, k5⟩ := HX.out.1; have HSN := kept (rsync_any base r _ R' wx k1 k2 k4 (by have := k3.2.2; omega)); have HFX := kept k3; have HTX := kept k5; have HLL : Hid ((layC 1 ((allIds z).take q) ((allIds z).drop q)).take q = layC 1 ((allIds z).take q) ((allIds z).drop q)) := kept (List.take_of_length_le (by rw [layC_length, List.length_take]; omega)); rw [HLL.out, ← HFL.out] at HSN HFX; have hsy : syncE (putW (fresh z) (formatL z)) = 0 := by unfold syncE; rw [if_neg (by rw [HFX.out.1]; decide)]
       rw [hsy] at HSN; have HFM : Hid (formatted z = (putW (fresh z) (formatL z)).trySync) := kept (by
        unfold formatted; rw [putS_putW (formatL z) 0 (fresh z) ⟨rfl, fresh_len z, Nat.le_refl _⟩ (fun x hx => by have := formatL_in z hz8 x hx; unfold inR at this; rw [fresh_len] at this; exact this)])
       clear k1 k2 k3 k4 k5 HX hsy; go_wp2_with (first | (go_at_call 40; (with_reducible refine (HSN.out).mono ?_); rintro e w9 ⟨rfl, h9⟩))
       go_ret; refine ⟨rfl, kept ?_⟩; obtain ⟨R2, m1, m2, m3⟩ := h9.out; rw [HFM.out]; exact ⟨R2, m1, m2, HTX.out.ref_trans m3⟩
theorem rread_cap (base r : Nat) (S : St) (R : RSt) (p : Int) (w : World) (h : RefD w base r R) (hs : Sim S R) (hf : S.fuse ≠ 0) (hp0 : 0 ≤ p) (hp : p < (S.pages.length : Int)) (hd : S.done ≤ 10000) :
 Calls Tryz.prog 92 #[.pointer (some ⟨r, 0, none⟩), .int .i64 p] w fun e w' => ∃ A c, e = .returned (.tuple #[.slice A 256 c, .int .i64 0]) ∧ Hid (Rd w' A 256 (S.page p) ∧ Below w.heap.size w w' ∧ 256 ≤ c) := by
 have hz : rhasE R p = 0 := by rw [hs.hasE, if_neg hf, if_neg (by omega)]
 have H := kept (rcheck_any base r R p w h); rw [hz] at H; obtain ⟨q, rfl⟩ := Int.eq_ofNat_of_zero_le hp0; have hq : q < R.pages.length := by rw [hs.pages]; omega
 have HF := hs.find (p := q) (by omega); obtain ⟨pg, pc, cA, cc, c0, c1, c3, hpg, hen⟩ := h.opened; rcases first_ix R.cache (q : Int) with ⟨i, hi, k1, k2, k3⟩ | ⟨k2, k3⟩
 · have HA := kept (at_found base r R (q : Int) i w h hi k1 k2 (hs.few' hd)); obtain ⟨g, v, rfl, z1, z2, b, c, rfl, hc, hr⟩ := hen i hi; rw [k3] at HF; have HX : Hid (R.cache[i].2 = S.page (q : Int)) := kept HF; have HT := kept (ptwin_any (some ⟨b, 0, none⟩) 256 c _ w hr (by omega)); have hin : (i : Int) < (R.cache.length : Int) := by omega
   have hsm := hs.few' hd; clear HF hen hpg h k1 k2 k3 z1 hr hf hz hs hd; go_enter Tryz.func92, Tryz.ntmps92; go_wp2_with (first | (go_at_call 87; (with_reducible refine (H.out).mono ?_); rintro e w' ⟨rfl, rfl⟩) | (go_at_call 88; (with_reducible refine (HA.out).mono ?_); rintro e w' ⟨rfl, rfl⟩) | (go_at_call 89; (with_reducible refine (HT.out).mono ?_); rintro e w2 ⟨A2, c2, rfl, h2⟩))
   go_ret2; exact ⟨A2, c2, rfl, kept ⟨HX.out ▸ Rd.of_own h2.out.1, h2.out.2, own_cap h2.out.1⟩⟩
 · have HA := kept (at_none base r R (q : Int) w h k2 (hs.few' hd)); obtain ⟨v, z1, b, c, rfl, hc, hr⟩ := hpg q hq; rw [k3] at HF; have HX : Hid (R.pages[q] = S.page (q : Int)) := kept (by rw [← HF]; simp [hq]); have HT := kept (ptwin_any (some ⟨b, 0, none⟩) 256 c _ w hr (by omega)); have hqi : (q : Int) < (R.pages.length : Int) := by omega
   clear HF hen hpg h k2 k3 hr hf hz hs hd; go_enter Tryz.func92, Tryz.ntmps92; go_wp2_with (first | (go_at_call 87; (with_reducible refine (H.out).mono ?_); rintro e w' ⟨rfl, rfl⟩) | (go_at_call 88; (with_reducible refine (HA.out).mono ?_); rintro e w' ⟨rfl, rfl⟩) | (go_at_call 89; (with_reducible refine (HT.out).mono ?_); rintro e w2 ⟨A2, c2, rfl, h2⟩))
   go_ret2; exact ⟨A2, c2, rfl, kept ⟨HX.out ▸ Rd.of_own h2.out.1, h2.out.2, own_cap h2.out.1⟩⟩
theorem newErr_swap (z : Int) (C I : List Int) : newErr z (I ++ C) = newErr z (C ++ I) := by
 unfold newErr; have e1 : (I ++ C).all (finB z) = (C ++ I).all (finB z) := by rw [List.all_append, List.all_append, Bool.and_comm]
 have e2 : (I ++ C).Nodup ↔ (C ++ I).Nodup := List.perm_append_comm.nodup_iff; rw [e1]; by_cases h : (C ++ I).Nodup
 · rw [if_pos h, if_pos (e2.2 h)]
 · rw [if_neg h, if_neg (fun k => h (e2.1 k))]
def ROA (w : World) (E : Int) (O : PSt) (e : Ending) (w' : World) : Prop :=
 ∃ P, e = .returned (.tuple #[P, .int .i64 E]) ∧ Hid (Below w.heap.size w w' ∧ (E ≠ 0 → P = .pointer none) ∧ (E = 0 → ∃ r0 rl g G, P = .pointer (some ⟨r0, 0, none⟩) ∧ w'.cell? ⟨r0, 1, none⟩ = some (.int .u64 (O.M.txn : Int)) ∧ w'.cell? ⟨r0, 5, none⟩ = some (.pointer (some ⟨rl, 0, none⟩)) ∧ Rf w' rl g G ∧ SimG O.L G))
theorem ROA.no {w w' : World} {E : Int} {O : PSt} (hb : Below w.heap.size w w') (h : E ≠ 0) : ROA w E O (.returned (.tuple #[.pointer none, .int .i64 E])) w' := ⟨_, rfl, kept ⟨hb, fun _ => rfl, fun e => absurd e h⟩⟩
abbrev metaC (t : Nat) (rt sp z : Int) : List Value := [.int .u64 (t : Int), .int .i64 rt, .int .i64 sp, .int .i64 z]
abbrev pagC (r t : Nat) (rt sp z : Int) (A : Option Addr) (n c : Nat) : List Value := [.pointer (some ⟨r, 0, none⟩), .int .u64 (t : Int), .int .i64 rt, .int .i64 sp, .int .i64 z, .pointer none, .slice A n c, .slice none 0 0, .int .i64 rt, .bool false]
structure RoK (S : St) (z : Nat) (w : World) (R : Int × List Int × List Int) (r t : Nat) (rt sp : Int) (bm r0 : Nat) (a : Int) (n : Nat) (A : Option Addr) (c : Nat) (C : List Int) (B : Option Addr) (m d : Nat) (I : List Int) (wr : World) : Prop where
 two : Two w wr A n c C B m d I
 mt : Blk wr bm 98 (metaC t rt sp (z : Int))
 pg : Blk wr r0 102 (pagC r t rt sp (z : Int) A n c)
 m0 : w.heap.size ≤ bm
 p0 : w.heap.size ≤ r0
 nd : C.Nodup
 cb : ∀ x ∈ C, 2 ≤ x ∧ x < (z : Int)
 il : I.length ≤ 59 * C.length
 rc : rchain S (1100 - C.length) a C I = R
theorem Turned.one {w : World} {b i : Nat} (u : Value) : Turned w (w.setCell ⟨b, i, none⟩ u) (fun j => j = b) := (Turned.refl w (fun j => j = b)).setCell (T := fun j => j = b) (p := ⟨b, i, none⟩) (fun _ => rfl) u
theorem Two.set_ {a w : World} {A : Option Addr} {n c : Nat} {C : List Int} {B : Option Addr} {m d : Nat} {I : List Int} (h : Two a w A n c C B m d I) {b : Nat} {t : TypeId} {cs : List Value} (hb : Blk w b t cs) (ht : t ≠ 3) (hn : a.heap.size ≤ b) (i : Nat) (u : Value) : Two a (w.setCell ⟨b, i, none⟩ u) A n c C B m d I :=
 ⟨h.ca.turned (Turned.one u) (fun g e hj => ht (((hj ▸ h.ca.cl e).uniq hb.cl).symm)), h.ib.turned (Turned.one u) (fun g e hj => ht (((hj ▸ h.ib.cl e).uniq hb.cl).symm)), h.an, h.bn, h.ne, h.below.setCell (p := ⟨b, i, none⟩) hn u⟩
theorem Blk.other {w : World} {b b' : Nat} {t t' : TypeId} {cs cs' : List Value} (h : Blk w b t cs) (k : Blk w b' t' cs') (ht : t ≠ t') (i : Nat) (u : Value) : Blk (w.setCell ⟨b', i, none⟩ u) b t cs :=
 (Turned.one u).blk h (fun e => ht (h.cl.uniq (e ▸ k.cl)))
theorem Blk.turnJ {w w' : World} {g : Nat} {t : TypeId} {cs : List Value} {A : Option Addr} (h : Blk w g t cs) (ht : t ≠ 3) (tu : Turned w w' (fun j => blkOf A = some j)) (hA : ∀ g, blkOf A = some g → Cl w g 3) : Blk w' g t cs :=
 tu.blk h (fun hj => ht ((hA g hj).uniq h.cl).symm)
theorem ropen_any (base r : Nat) (S : St) (R0 : RSt) (w : World) (h : RefD w base r R0) (hs : Sim S R0) (hf : S.fuse ≠ 0) (hz8 : 8 ≤ S.pages.length) (hz1024 : S.pages.length ≤ 1024) (hd : S.done ≤ 10000) :
 Calls Tryz.prog 41 #[.pointer (some ⟨r, 0, none⟩)] w (ROA w (openE S) (openS S)) := by
 have HRD := kept (fun (W : World) (p : Int) (hb : Below w.heap.size w W) (h0 : 0 ≤ p) (h1 : p < (S.pages.length : Int)) => rread_cap base r S R0 p W (h.below hb) hs hf h0 h1 hd); have HCL := kept (fun (W : World) (hb : Below w.heap.size w W) => (h.below hb).cells); have hRl : R0.pages.length = S.pages.length := by rw [hs.pages]
 rw [hRl] at HCL; have HOE : Hid (openE S = if (chooseM (S.page 0) (S.page 1)).2 ≠ 0 then (chooseM (S.page 0) (S.page 1)).2
 else if (chooseM (S.page 0) (S.page 1)).1.size ≠ (S.pages.length : Int) then 4
 else if (rchain S 1100 (chooseM (S.page 0) (S.page 1)).1.spare [] []).1 ≠ 0 then (rchain S 1100 (chooseM (S.page 0) (S.page 1)).1.spare [] []).1
 else if newErr (chooseM (S.page 0) (S.page 1)).1.size ((rchain S 1100 (chooseM (S.page 0) (S.page 1)).1.spare [] []).2.1 ++ (rchain S 1100 (chooseM (S.page 0) (S.page 1)).1.spare [] []).2.2) ≠ 0 then 4 else 0) := kept rfl
 have HOM : Hid ((openS S).M = (chooseM (S.page 0) (S.page 1)).1) := kept rfl; have HOL : Hid ((openS S).L = ⟨(chooseM (S.page 0) (S.page 1)).1.size, addAll [] (rchain S 1100 (chooseM (S.page 0) (S.page 1)).1.spare [] []).2.2, []⟩) := kept rfl; have HCH := kept (fun (W : World) (A B : Option Addr) (c d : Nat) (r0 : Rd W A 256 (S.page 0)) (r1 : Rd W B 256 (S.page 1)) (hc : 256 ≤ c) (hd : 256 ≤ d) => refChoose_m A B 256 256 c d (S.page 0) (S.page 1) W r0 hc r1 hd); generalize openE S = E at HOE ⊢; generalize openS S = O at HOM HOL ⊢; have HR0 := kept (HRD.out w 0 (Below.refl _ _) (by omega) (by omega)); generalize chooseM (S.page 0) (S.page 1) = D at HOE HOM HOL HCH; obtain ⟨⟨t, rt, sp, sz⟩, er⟩ := D; simp only at HOE HOM HOL HCH; clear h hs hf hRl; go_enter Tryz.func41, Tryz.ntmps41; go_wp2_with fail
 with_reducible refine HR0.out.mono ?_
 rintro e w1 ⟨A1, c1, rfl, h1⟩; have HB1 := kept h1.out.2.1; have HRA1 := kept (And.intro h1.out.1 h1.out.2.2); have HR1 := kept (HRD.out w1 1 HB1.out (by omega) (by omega)); clear h1 HR0; go_wp2_with fail
 with_reducible refine HR1.out.mono ?_
 rintro e w2 ⟨A2, c2, rfl, h2⟩; have HB2 := kept (HB1.out.trans (h2.out.2.1.mono HB1.out.size)); have HC2 := kept (HCH.out w2 A1 A2 c1 c2 (HRA1.out.1.below h2.out.2.1) h2.out.1 HRA1.out.2 h2.out.2.2); clear h2 HR1 HCH HRA1; go_wp2_with fail
 with_reducible refine HC2.out.mono ?_
 rintro e w3 ⟨rfl, hb3⟩; have HB3 := kept (HB2.out.trans (hb3.mono HB2.out.size)); clear hb3 HC2; by_cases her : er = 0
 case neg =>
  have hE : E = er := by rw [HOE.out, if_pos her]
  have hne : (er != 0) = true := by simpa using her
  go_wp2; go_returns; (try rw [hE]); exact ROA.no (HB3.out.alloc HB3.out.size _) her
 subst her; obtain ⟨z, hz⟩ : ∃ z, S.pages.length = z := ⟨_, rfl⟩
 obtain ⟨W4, hW4⟩ : ∃ W4, W4 = w3.alloc (.cells #[.int .u64 (t : Int), .int .i64 rt, .int .i64 sp, .int .i64 sz] 98) := ⟨_, rfl⟩
 have HB4 : Hid (Below w.heap.size w W4) := kept (by rw [hW4]; exact HB3.out.alloc HB3.out.size _); have HM4 : Hid (Blk W4 w3.heap.size 98 [.int .u64 (t : Int), .int .i64 rt, .int .i64 sp, .int .i64 sz]) := kept (by rw [hW4]; exact Blk.new w3 98 #[.int .u64 (t : Int), .int .i64 rt, .int .i64 sp, .int .i64 sz]); go_wp2; rw [← hW4]; obtain ⟨pg, pc, cA, cc, hc0, hc1, hc2, hc3, hc4⟩ := HCL.out W4.drew HB4.out.drew; rw [hz] at hc0; have d3 : W4.drew.cell? ⟨w3.heap.size, 3, none⟩ = some (.int .i64 sz) := HM4.out.cell 3; clear hc1 hc2 hc3 hc4 hW4 HCL; by_cases hsz : sz = (z : Int)
 case neg =>
  have hE : E = 4 := by rw [HOE.out, if_neg (by simp), if_pos (by rw [hz]; exact hsz)]
  have hne : (sz != (z : Int)) = true := by simpa using hsz
  refine wp_region_held_drew (S := (fun W' => W'.cell? ⟨w3.heap.size, 3, none⟩ = some (.int .i64 sz) ∧ W'.cell? ⟨r, 0, none⟩ = some (.slice (some ⟨pg, 0, none⟩) z pc))) (by kernel_rfl) ?_ (fun hHeld => ?_)
  · ((try dsimp only); (with_reducible exact ⟨d3, hc0⟩))
  refine hT 0 (some 41) ?_; refine hT 1 (some 42) ?_; refine hT 2 (some 43) ?_; refine hT 3 (some 44) ?_; refine hT 4 (some 45) ?_; refine hT 5 (some 46) ?_; refine hT 6 (some 47) ?_; refine hT 7 (some 48) ?_; refine wpAnyH_done (by kernel_rfl) ?_ _; go_wp2; go_returns; (try rw [hE]); exact ROA.no HB4.out.drew (by decide)
 subst hsz; rw [hz] at HOE; have hszb : ((z : Int) != (z : Int)) = false := by simp
 refine wp_region_held_drew (S := (fun W' => W'.cell? ⟨w3.heap.size, 3, none⟩ = some (.int .i64 (z : Int)) ∧ W'.cell? ⟨r, 0, none⟩ = some (.slice (some ⟨pg, 0, none⟩) z pc))) (by kernel_rfl) ?_ (fun hHeld => ?_)
 · ((try dsimp only); (with_reducible exact ⟨d3, hc0⟩))
 refine hT 0 (some 41) ?_; refine hT 1 (some 42) ?_; refine hT 2 (some 43) ?_; refine hT 3 (some 44) ?_; refine hT 4 (some 45) ?_; refine hT 5 (some 46) ?_; refine hT 6 (some 47) ?_; refine hT 7 (some 48) ?_; refine wpAnyH_done (by kernel_rfl) ?_ _; have d0 : W4.drew.cell? ⟨w3.heap.size, 0, none⟩ = some (.int .u64 (t : Int)) := HM4.out.cell 0; have d1 : W4.drew.cell? ⟨w3.heap.size, 1, none⟩ = some (.int .i64 rt) := HM4.out.cell 1; have d2 : W4.drew.cell? ⟨w3.heap.size, 2, none⟩ = some (.int .i64 sp) := HM4.out.cell 2; have d2' : ((W4.alloc (.cells (pagC r t rt sp (z : Int) none 0 0).toArray 102)).alloc (.cells #[] 3)).cell? ⟨w3.heap.size, 2, none⟩ = some (.int .i64 sp) := ((HM4.out.below ((Below.refl _ W4).alloc (Nat.le_refl _) _) HM4.out.lt).below ((Below.refl _ _).alloc (Nat.le_refl _) _) (HM4.out.below ((Below.refl _ W4).alloc (Nat.le_refl _) _) HM4.out.lt).lt).cell 2; go_wp2; clear d0 d1 d2 d2' d3 hc0; have HOE2 : Hid (E = if (rchain S 1100 sp [] []).1 ≠ 0 then (rchain S 1100 sp [] []).1 else if newErr (z : Int) ((rchain S 1100 sp [] []).2.1 ++ (rchain S 1100 sp [] []).2.2) ≠ 0 then 4 else 0) := kept (by rw [HOE.out, if_neg (by simp), if_neg (by simp)]); clear HOE; have H0 : Hid (RoK S z w (rchain S 1100 sp [] []) r t rt sp w3.heap.size W4.heap.size sp 0 none 0 [] (some ⟨W4.heap.size + 1, 0, none⟩) 0 0 [] ((W4.alloc (.cells (pagC r t rt sp (z : Int) none 0 0).toArray 102)).alloc (.cells #[] 3)).drew) := kept (by
  have hs1 : (W4.alloc (.cells (pagC r t rt sp (z : Int) none 0 0).toArray 102)).heap.size = W4.heap.size + 1 := by simp
  have hb1 := (Below.refl W4.heap.size W4).alloc (Nat.le_refl _) (.cells (pagC r t rt sp (z : Int) none 0 0).toArray 102); have hb2 := (below_ad (W4.alloc (.cells (pagC r t rt sp (z : Int) none 0 0).toArray 102)) (.cells #[] 3))
  have hi := OwI.none_new (W4.alloc (.cells (pagC r t rt sp (z : Int) none 0 0).toArray 102)); rw [hs1] at hi; have hbw := HB4.out.trans ((hb1.trans (hb2.mono hb1.size)).mono HB4.out.size); have hp := (Blk.new W4 102 (pagC r t rt sp (z : Int) none 0 0).toArray)
  refine ⟨⟨OwI.nil_ _, hi.below (Below.refl _ _).drew, (fun g e => by cases e), (fun g e => ?_), (fun g e => by cases e), hbw⟩, (HM4.out.below hb1 HM4.out.lt).below hb2 (HM4.out.below hb1 HM4.out.lt).lt, hp.below hb2 hp.lt, HB3.out.size, HB4.out.size, List.nodup_nil, (fun x hx => by cases hx), Nat.le_refl _, rfl⟩; have e : some (W4.heap.size + 1) = some g := e; injection e with e
  have := HB4.out.size
  omega)
 have HZ := kept hz; generalize rchain S 1100 sp [] [] = R at H0 HOE2 HOL; generalize hr0 : W4.heap.size = r0 at H0 ⊢; generalize hbm : w3.heap.size = bm at H0 ⊢; clear HB4 HM4 HB3 HB2 HB1 hr0 hbm
 go_loopg [9, 10] 1101 (fun gk ids at_ wr => ∃ (a : Int) (n : Nat) (A : Option Addr) (c : Nat) (C : List Int) (B : Option Addr) (m d : Nat) (I : List Int), at_ = .int .i64 a ∧ ids = .slice B m d ∧ gk = 1101 - n ∧ Hid (RoK S z w R r t rt sp bm r0 a n A c C B m d I wr))
 case atStart => exact ⟨sp, 0, none, 0, [], _, 0, 0, [], rfl, rfl, rfl, H0⟩
 case round =>
  obtain ⟨a, n, A, c, C, B, m, d', I, rfl, rfl, hgk, HL⟩ := hrel; clear H0; have hn : C.length = n := HL.out.two.ca.1; have hm : I.length = m := HL.out.two.ib.1; have hn1 : n ≤ 1022 := by rw [← hn]; exact nodup_short HL.out.nd HL.out.cb (by omega)
  have hm1 : m ≤ 60298 := by have := HL.out.il; omega
  have HNL := kept (And.intro hn hm); obtain ⟨q, hq⟩ : ∃ q, 1100 - n = q + 1 := ⟨1099 - n, by omega⟩
  have HRC : Hid (rchain S (q + 1) a C I = R) := kept (by have := HL.out.rc; rw [hn, hq] at this; exact this); have HGK := kept hgk; clear hgk hn hm; have hb3 : wr.cell? ⟨bm, 3, none⟩ = some (.int .i64 (z : Int)) := HL.out.mt.cell 3; have hb6 : wr.cell? ⟨r0, 6, none⟩ = some (.slice A n c) := HL.out.pg.cell 6; by_cases ha : a = 0
  · subst ha; have HE : Hid (R = (0, C, I)) := kept (by rw [← HRC.out, rchain, if_pos rfl]); have HE2 : Hid (E = if newErr (z : Int) (C ++ I) ≠ 0 then 4 else 0) := kept (by rw [HOE2.out, HE.out]; simp); have hb3' : wr.drew.cell? ⟨bm, 3, none⟩ = some (.int .i64 (z : Int)) := hb3; have hb6' : wr.drew.cell? ⟨r0, 6, none⟩ = some (.slice A n c) := hb6; have HCE : Hid (∀ W, Below wr.heap.size wr W → W.cell? ⟨bm, 3, none⟩ = some (.int .i64 (z : Int)) ∧ W.cell? ⟨r0, 6, none⟩ = some (.slice A n c)) := kept (fun W hb => ⟨(HL.out.mt.below hb HL.out.mt.lt).cell 3, (HL.out.pg.below hb HL.out.pg.lt).cell 6⟩); have HBD : Hid (Below wr.heap.size wr (wr.alloc (.cells #[] 3)).drew) := kept (below_ad wr _); have HO2 : Hid (OwI (wr.alloc (.cells #[] 3)).drew (some ⟨wr.heap.size, 0, none⟩) 0 0 []) := kept ((OwI.none_new wr).below (Below.refl _ _).drew); have HI2 : Hid (RdI (wr.alloc (.cells #[] 3)).drew B m I) := kept (HL.out.two.ib.below HBD.out).reads; have hm2 : 0 + m ≤ 1000000 := by omega
    have hm3 : m + n ≤ 1000000 := by omega
    go_upto_region 35 with fail
    refine wp_region_held_drew (S := (fun W' => W'.cell? ⟨bm, 3, none⟩ = some (.int .i64 (z : Int)) ∧ W'.cell? ⟨r0, 6, none⟩ = some (.slice A n c))) (by kernel_rfl) ?_ (fun hHeld => ?_)
    · ((try dsimp only); (with_reducible first | exact ⟨hb3', hb6'⟩ | exact HCE.out _ HBD.out | exact HCE.out _ HB4.out | exact HCE.out _ HB9.out | exact HCE.out _ HB10.out))
    refine hT 0 (some 118) ?_; refine hT 1 (some 119) ?_; refine hT 3 (some 121) ?_; refine hT 5 (some 123) ?_; refine hT 6 (some 124) ?_; refine hT 7 (some 125) ?_; refine hT 8 (some 126) ?_; refine hR 2 (fun K hK => ?_); go_simp; refine hK.out _ _ ?_ (fun hHeld => ?_)
    · ((try dsimp only); (with_reducible first | exact ⟨hb3', hb6'⟩ | exact HCE.out _ HBD.out | exact HCE.out _ HB4.out | exact HCE.out _ HB9.out | exact HCE.out _ HB10.out))
    clear hK K; (try simp only [Act.put, hA, h0, h1]); refine hR 4 (fun K hK => ?_)
    (refine wp_append_i (.tmp 120) (.tmp 121) rfl rfl rfl HO2.out HI2.out hm2 ?_; intro A4 c4 w4 h4 t4 g4; simp only [Nat.zero_add, List.nil_append] at h4 ⊢; have HB4 : Hid (Below wr.heap.size wr w4) := kept (t4.only_new HBD.out HBD.out.size (fun i hi => by cases hi; exact Nat.le_refl _)); have HO4 := kept h4; have HA4 : Hid (∀ g, blkOf A4 = some g → wr.heap.size ≤ g) := kept (fun g e => (g4 g e).elim (fun k => by cases k; exact Nat.le_refl _) (fun k => Nat.le_trans HBD.out.size k)); have HC4 : Hid (RdI w4 A n C) := kept (HL.out.two.ca.below HB4.out).reads; clear h4 t4 g4)
    refine hK.out _ _ ?_ (fun hHeld => ?_)
    · ((try dsimp only); (with_reducible first | exact ⟨hb3', hb6'⟩ | exact HCE.out _ HBD.out | exact HCE.out _ HB4.out | exact HCE.out _ HB9.out | exact HCE.out _ HB10.out))
    clear hK K; (try simp only [Act.put, hA, h0, h1]); refine hR 9 (fun K hK => ?_)
    (refine wp_append_i (.tmp 122) (.tmp 126) rfl rfl rfl HO4.out HC4.out hm3 ?_; intro A9 c9 w9 h9 t9 g9; have HB9 : Hid (Below wr.heap.size wr w9) := kept (t9.only_new HB4.out HB4.out.size (fun i hi => HA4.out i hi)); have HNW := kept (rfnew_any (z : Int) A9 (m + n) c9 (I ++ C) w9 h9.reads hm3); clear h9 t9 g9)
    refine hK.out _ _ ?_ (fun hHeld => ?_)
    · ((try dsimp only); (with_reducible first | exact ⟨hb3', hb6'⟩ | exact HCE.out _ HBD.out | exact HCE.out _ HB4.out | exact HCE.out _ HB9.out | exact HCE.out _ HB10.out))
    clear hK K; (try simp only [Act.put, hA, h0, h1]); refine hR 10 (fun K hK => ?_); go_simp
    ((go_at_call 95; (with_reducible refine HNW.out.mono ?_); rintro e w10 ⟨P, rfl, h10⟩); have HB10 : Hid (Below wr.heap.size wr w10) := kept (HB9.out.trans (h10.out.1.mono HB9.out.size)); rw [newErr_swap])
    (try go_wp2_with fail); refine hK.out _ _ ?_ (fun hHeld => ?_)
    · ((try dsimp only); (with_reducible first | exact ⟨hb3', hb6'⟩ | exact HCE.out _ HBD.out | exact HCE.out _ HB4.out | exact HCE.out _ HB9.out | exact HCE.out _ HB10.out))
    clear hK K; (try simp only [Act.put, hA, h0, h1]); refine hT 11 (some 117) ?_; refine hT 12 (some 129) ?_; refine hT 13 (some 130) ?_; refine hT 14 (some 5) ?_; refine wpAnyH_done (by kernel_rfl) ?_ _; obtain ⟨er, her⟩ : ∃ er, newErr (z : Int) (C ++ I) = er := ⟨_, rfl⟩
    rw [her]; have HER := kept her; have HBW := kept (HL.out.two.below.trans (HB10.out.mono HL.out.two.below.size)); clear her; by_cases he0 : er = 0
    case neg =>
     have hE : E = 4 := by rw [HE2.out, HER.out, if_pos he0]
     have hne : (er != 0) = true := by simpa using he0
     go_wp2; go_returns; (try rw [hE]); exact ROA.no HBW.out (by decide)
    subst he0; have hE : E = 0 := by rw [HE2.out, HER.out, if_neg (by simp)]
    have HN2 : Hid (newErr (z : Int) I = 0) := kept (by
     have hnz := newErr_zero HER.out; unfold newErr; rw [if_neg (by omega), if_pos (List.all_eq_true.2 (fun x hx => by have := hnz.2.1 x (List.mem_append_right _ hx); simp [finB]; omega)), if_pos ((List.nodup_append.1 hnz.2.2).2.1)])
    have k3 : w10.cell? ⟨bm, 3, none⟩ = some (.int .i64 (z : Int)) := (HCE.out _ HB10.out).1; have HN3 := kept (rfnew_any (z : Int) B m d' I w10 (HL.out.two.ib.below HB10.out).reads (by omega)); have HPG := kept (HL.out.pg.below HB10.out HL.out.pg.lt); clear h10 HNW hb3 hb6 hb3' hb6'; go_wp2_with (first | (go_at_call 95; (with_reducible refine (HN3.out).mono ?_); rintro e w11 ⟨P2, rfl, h11⟩; obtain ⟨hb11, hx11⟩ := h11.out; obtain ⟨rl, gl, G, rfl, hRf, hSim, hrl, hgl⟩ := hx11 HN2.out; have HPG2 := kept (HPG.out.below hb11 HPG.out.lt); have f5 := HPG2.out.frozen 5; have e5 : w11.cell? ⟨r0, 5, none⟩ = some (.pointer none) := HPG2.out.cell 5; have HRf := kept hRf; have HSim := kept hSim; have HB11 := kept (HBW.out.trans (hb11.mono HBW.out.size)); have HRN := kept (And.intro hrl hgl); clear hb11 hx11 h11 hRf hSim hrl hgl))
    go_returns; (try rw [hE]); have hlt0 : r0 < w10.heap.size := HPG.out.lt; refine ⟨_, rfl, kept ⟨HB11.out.setCell (p := ⟨r0, 5, none⟩) HL.out.p0 _, fun h => absurd rfl h, fun _ => ⟨r0, rl, gl, G, rfl, ?_, ?_, ?_, ?_⟩⟩⟩
    · rw [HOM.out]; exact (HPG2.out.set_ 5 (.pointer (some ⟨rl, 0, none⟩))).cell 1
    · exact (HPG2.out.set_ 5 (.pointer (some ⟨rl, 0, none⟩))).cell 5
    · have h1 := HRN.out.1; have h2 := HRN.out.2; exact HRf.out.turned (Turned.one _) (fun e => by omega) (fun e => by omega)
    · rw [HOL.out, HE.out]; exact HSim.out
  · have hab : (a != 0) = true := by simpa using ha
    have hE4 : R = (4, [], []) → E = 4 := fun h => by rw [HOE2.out, h]; simp
    cases hfb : finB (S.pages.length : Int) a with
    | false =>
      have hE := hE4 (by rw [← HRC.out, rchain, if_neg ha, if_pos hfb]); have hfz : ¬ (2 ≤ a ∧ a < (z : Int)) := by rw [HZ.out] at hfb; simpa [finB] using hfb
      by_cases h2 : a < 2
      · clear hfz hfb ha; go_wp2; go_returns; (try rw [hE]); exact ROA.no HL.out.two.below (by decide)
      · have h3 : (z : Int) ≤ a := by omega
        clear hfz hfb ha; go_wp2; go_returns; (try rw [hE]); exact ROA.no HL.out.two.below (by decide)
    | true =>
      have hrg : 2 ≤ a ∧ a < (z : Int) := by rw [HZ.out] at hfb; simpa [finB] using hfb
      have HRG := kept hrg; have h2 : ¬ a < 2 := by omega
      have h3 : ¬ (z : Int) ≤ a := by omega
      have HCR := kept HL.out.two.ca.reads; have HAN : Hid (a ≠ 0 ∧ finB (S.pages.length : Int) a = true) := kept ⟨ha, hfb⟩; clear hrg hfb ha; go_wp2; go_loop [73] (fun i => ∃ k : Nat, k ≤ n ∧ i = .int .i64 (k : Int) ∧ Hid (∀ x ∈ C.take k, x ≠ a)) (fun i => n - (intOf i).toNat)
      case atStart => exact ⟨0, Nat.zero_le _, rfl, kept (fun x hx => by simp at hx)⟩
      case round =>
       obtain ⟨k, hk, rfl, HT⟩ := hrel; by_cases hlt : k < n
       · obtain ⟨b, o, hA, hc⟩ := HCR.out.at_ hlt; have hkC : k < C.length := by rw [HNL.out.1]; exact hlt
         have HTK := kept (take_snoc hkC); have HMC := kept (List.getElem_mem hkC); have hc : wr.cell? ⟨b, o + k, none⟩ = some (.int .i64 C[k]) := hc; generalize C[k] = x at hc HTK HMC; have hkn : (k : Int) < (n : Int) := by omega
         subst hA; by_cases hxa : x = a
         · subst hxa; have hE := hE4 (by rw [← HRC.out, rchain, if_neg HAN.out.1, if_neg (by rw [HAN.out.2]; decide), if_pos HMC.out]); go_wp2; go_returns; (try rw [hE]); exact ROA.no HL.out.two.below (by decide)
         · have hxb : (x == a) = false := by simpa using hxa
           have HT2 : Hid (∀ y ∈ C.take (k + 1), y ≠ a) := kept (by
            rw [HTK.out]; intro y hy; rcases List.mem_append.1 hy with hy | hy
            · exact HT.out y hy
            · rw [List.mem_singleton.1 hy]; exact hxa)
           clear hxa; go_wp2; clear hc hxb; go_round
           case rel => exact ⟨k + 1, by omega, by go_num, HT2⟩
           case measure => simp [intOf]; omega
       · obtain rfl : k = n := by omega
         have hkn : ¬ (k : Int) < (k : Int) := by omega
         have hac : a ∉ C := fun h => by
          have := HT.out a (by rw [List.take_of_length_le (by rw [HNL.out.1]; exact Nat.le_refl _)]; exact h); exact this rfl
         have HRC2 : Hid ((if (decPg (S.page a)).2 ≠ 0 then ((decPg (S.page a)).2, [], []) else if (decPg (S.page a)).1.kind ≠ 4 then (4, [], []) else rchain S q (decPg (S.page a)).1.next (C ++ [a]) (I ++ (decPg (S.page a)).1.ids)) = R) := kept (by
          have := HRC.out; rw [rchain, if_neg HAN.out.1, if_neg (by rw [HAN.out.2]; decide), if_neg hac] at this; exact this)
         have HAC := kept hac; have HIL := kept (decPg_ids (S.page a)); have HRA := kept (HRD.out wr a HL.out.two.below (by have := HRG.out; omega) (by rw [HZ.out]; exact HRG.out.2)); clear hac HRC HT; go_wp2_with fail
         with_reducible refine HRA.out.mono ?_
         rintro e w5 ⟨A5, c5, rfl, h5⟩; have HDC := kept (refDecode_dec 256 A5 c5 (S.page a) w5 h5.out.1 h5.out.2.2); have HB5 := kept h5.out.2.1; clear h5 HRA; generalize decPg (S.page a) = D at HDC HRC2 HIL; obtain ⟨Q, er⟩ := D; simp only at HDC HRC2 HIL; go_wp2_with fail
         with_reducible refine HDC.out.mono ?_
         rintro e w6 ⟨⟨l, rfl, hs, hnn, hb6b⟩, hnew⟩; have HNW : Hid (Q.kind = 4 → ∀ g, blkOf l.a4 = some g → w5.heap.size ≤ g) := kept (fun hk g hg => by
          obtain ⟨a0, h0, h1⟩ : ∃ a0 : Addr, l.a4 = some a0 ∧ a0.block = g := by
           cases h : l.a4 with
           | none => rw [h] at hg; cases hg
           | some a0 => rw [h] at hg; exact ⟨a0, rfl, by injection hg⟩
          rw [← h1]; exact hnew hk l er rfl a0 h0)
         obtain ⟨kind, txn, next, a1, n1, k1, a2, n2, k2, a3, n3, k3, a4, n4, k4⟩ := l; have HB6 := kept (HB5.out.trans (hb6b.mono HB5.out.size)); have HRP := hs; have HBW6 := kept (HL.out.two.below.trans (HB6.out.mono HL.out.two.below.size)); have HBW7 := fun o => kept (HBW6.out.alloc HBW6.out.size o)
         have h56 : w5.heap.size ≤ w6.heap.size := hb6b.size; have hw5 : wr.heap.size ≤ w5.heap.size := HB5.out.size; clear hb6b hnn HDC HB5 hs hnew; by_cases he : er = 0
         case neg =>
          have hE : E = er := by
           have h1 := HRC2.out; rw [if_pos he] at h1; rw [HOE2.out, ← h1]; simp [he]
          have hne : (er != 0) = true := by simpa using he
          go_wp2; go_returns; (try rw [hE]); exact ROA.no (HBW7 _).out he
         subst he; have hkk : Q.kind = kind := HRP.out.kind; by_cases hk4 : kind = 4
         case neg =>
          have hE := hE4 (by have h1 := HRC2.out; rw [if_neg (by simp), if_pos (by rw [hkk]; exact hk4)] at h1; exact h1.symm); have hne : (kind != 4) = true := by simpa using hk4
          clear hkk; go_wp2; go_returns; (try rw [hE]); exact ROA.no (HBW7 _).out (by decide)
         subst hk4; have HRQ : Hid (rchain S q Q.next (C ++ [a]) (I ++ Q.ids) = R) := kept (by have h1 := HRC2.out; rw [if_neg (by simp), if_neg (by rw [hkk]; simp)] at h1; exact h1); have HNB := kept (HNW.out hkk); have HNX : Hid (Q.next = next) := kept HRP.out.next; clear HRC2 HNW hkk; go_upto_region 32 with fail
         obtain ⟨W7, hW7⟩ : ∃ W7, W7 = w6.alloc (.cells #[.int .i64 4, .int .u64 txn, .int .i64 next, .slice a1 n1 k1, .slice a2 n2 k2, .slice a3 n3 k3, .slice a4 n4 k4] 197) := ⟨_, rfl⟩
         have HB7 : Hid (Below wr.heap.size wr W7) := kept (by rw [hW7]; exact HB6.out.alloc HB6.out.size _); have HX7 : Hid (Blk W7 w6.heap.size 197 [.int .i64 4, .int .u64 txn, .int .i64 next, .slice a1 n1 k1, .slice a2 n2 k2, .slice a3 n3 k3, .slice a4 n4 k4]) := kept (by rw [hW7]; exact Blk.new w6 197 #[.int .i64 4, .int .u64 txn, .int .i64 next, .slice a1 n1 k1, .slice a2 n2 k2, .slice a3 n3 k3, .slice a4 n4 k4]); have HRI7 : Hid (RdI W7 a4 n4 Q.ids) := kept (by rw [hW7]; exact HRP.out.ri.below ((Below.refl _ w6).alloc (Nat.le_refl _) _)); have hn4 : n4 ≤ 59 := by have h1 := HRP.out.n4; have h2 := HIL.out; have h3 : Q.ids.length = n4 := h1; omega
         rw [← hW7]; generalize hbx : w6.heap.size = bx at HX7 ⊢; clear hW7 HRP HB6 HBW6 HBW7 hbx h56; have k6 : W7.cell? ⟨r0, 6, none⟩ = some (.slice A k c) := (HL.out.pg.below HB7.out HL.out.pg.lt).cell 6; have HT7 := fun o => kept ((HL.out.two.on HB7.out).on ((Below.refl _ W7).alloc (Nat.le_refl _) o))
         have hk1 : k + 1 ≤ 1000000 := by omega
         have hk2 : m + n4 ≤ 1000000 := by omega
         clear hb3 hb6; go_wp2_with (first | (at_builtin; refine wpList_append_i rfl (.tmp 105) (.tmp 107) rfl rfl rfl (HT7 _).out.ca (RdI.oneI W7 a) hk1 ?_; intro A8 c8 w8 h8 t8 g8; have HT8 := kept ((HT7 _).out.growA h8 t8 g8); have hcl8 : ∀ g, blkOf A = some g → Cl (W7.alloc (.cells #[.int .i64 a] 3)) g 3 := (fun g hg => (HT7 _).out.ca.cl hg); have HPG8 := kept (((HL.out.pg.below HB7.out HL.out.pg.lt).alloc (.cells #[.int .i64 a] 3)).turnJ (by decide) t8 hcl8); have HMT8 := kept (((HL.out.mt.below HB7.out HL.out.mt.lt).alloc (.cells #[.int .i64 a] 3)).turnJ (by decide) t8 hcl8); have HBX8 := kept ((HX7.out.alloc (.cells #[.int .i64 a] 3)).turnJ (by decide) t8 hcl8); have HRI8 : Hid (RdI w8 a4 n4 Q.ids) := kept ((HRI7.out.below ((Below.refl _ W7).alloc (Nat.le_refl _) _)).turned t8 (fun g hg hj => by have h1 := HNB.out g hg; have h2 := HL.out.two.ca.lt hj; omega)); have e6 : w8.cell? ⟨r0, 6, none⟩ = some (.slice A k c) := HPG8.out.cell 6; have f6 := HPG8.out.frozen 6; have HT9 := kept (HT8.out.set_ HPG8.out (by decide) HL.out.p0 6 (.slice A8 (k + 1) c8)); have HPG9 := kept (HPG8.out.set_ 6 (.slice A8 (k + 1) c8)); have HMT9 := kept (HMT8.out.other HPG8.out (by decide) 6 (.slice A8 (k + 1) c8)); have HBX9 := kept (HBX8.out.other HPG8.out (by decide) 6 (.slice A8 (k + 1) c8)); have HRI9 : Hid (RdI (w8.setCell ⟨r0, 6, none⟩ (.slice A8 (k + 1) c8)) a4 n4 Q.ids) := kept (HRI8.out.turned (Turned.one _) (fun g hg hj => by have h1 := HNB.out g hg; have h2 := HL.out.pg.lt; omega)); have x6 : (w8.setCell ⟨r0, 6, none⟩ (.slice A8 (k + 1) c8)).cell? ⟨bx, 6, none⟩ = some (.slice a4 n4 k4) := HBX9.out.cell 6; clear h8 t8 g8 hcl8) | (at_builtin; refine wpList_append_i rfl (.tmp 111) (.tmp 113) rfl rfl rfl HT9.out.ib HRI9.out hk2 ?_; intro B10 d10 w10 h10 t10 g10; have HT10 := kept (HT9.out.growB h10 t10 g10); have hcl10 : ∀ g, blkOf B = some g → Cl (w8.setCell ⟨r0, 6, none⟩ (.slice A8 (k + 1) c8)) g 3 := (fun g hg => HT9.out.ib.cl hg); have HPG10 := kept (HPG9.out.turnJ (by decide) t10 hcl10); have HMT10 := kept (HMT9.out.turnJ (by decide) t10 hcl10); have HBX10 := kept (HBX9.out.turnJ (by decide) t10 hcl10); have x2 : w10.cell? ⟨bx, 2, none⟩ = some (.int .i64 next) := HBX10.out.cell 2; clear h10 t10 g10 hcl10))
         have HFIN : Hid (RoK S z w R r t rt sp bm r0 next (k + 1) A8 c8 (C ++ [a]) B10 (m + n4) d10 (I ++ Q.ids) w10) := kept ⟨HT10.out, HMT10.out, HPG10.out, HL.out.m0, HL.out.p0, nodup_snoc.2 ⟨HL.out.nd, HAC.out⟩, fun x hx => by
          rcases List.mem_append.1 hx with hx | hx
          · exact HL.out.cb x hx
          · obtain rfl := List.mem_singleton.1 hx; exact HRG.out, by
          have h1 := HL.out.il; have h3 := HIL.out; simp only [List.length_append, List.length_singleton]
          omega, by
          have h1 : 1100 - (C ++ [a]).length = q := by have := HNL.out.1; simp only [List.length_append, List.length_singleton]; omega
          rw [h1, ← HNX.out]; exact HRQ.out⟩
         go_wp2
         go_roundg (1101 - (k + 1))
         case measure => have := HGK.out; omega
         case rel => exact ⟨next, k + 1, A8, c8, C ++ [a], B10, m + n4, d10, I ++ Q.ids, rfl, rfl, rfl, HFIN⟩
end Go.Proofs.YtcapcobkildmcaaGreatDoor
end
