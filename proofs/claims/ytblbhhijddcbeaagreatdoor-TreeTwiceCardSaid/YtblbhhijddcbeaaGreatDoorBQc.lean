/- Qc -/
import Derived.Test.YtblbhhijddcbeaaGreatDoorBFr6
import Derived.Test.YtblbhhijddcbeaaGreatDoorBDa
section
namespace Go.Proofs.YtblbhhijddcbeaaGreatDoor
open Go.ChangeShapes Go.WideShapes Go.ChangeAt Go.RowKit
set_option linter.unusedVariables false
set_option linter.unusedSimpArgs false
set_option maxRecDepth 100000
set_option maxHeartbeats 16000000
def Cl (w : World) (b : Nat) (t : TypeId) : Prop := ∃ cs q, w.heap[b]? = some (.cells cs t q)
theorem Cl.lt {w : World} {b : Nat} {t : TypeId} (h : Cl w b t) : b < w.heap.size := by obtain ⟨_, _, h⟩ := h; exact (Array.getElem?_eq_some_iff.1 h).1
theorem Cl.uniq {w : World} {b : Nat} {t u : TypeId} (h : Cl w b t) (k : Cl w b u) : t = u := by
 obtain ⟨_, _, h⟩ := h; obtain ⟨_, _, k⟩ := k; rw [h] at k; simp only [Option.some.injEq, Obj.cells.injEq] at k; exact k.2.1
theorem Cl.keep {w w' : World} {b : Nat} {t : TypeId} (h : Cl w b t) (e : w'.heap[b]? = w.heap[b]?) : Cl w' b t := by obtain ⟨cs, q, h⟩ := h; exact ⟨cs, q, e.trans h⟩
theorem Blk.cl {w : World} {b : Nat} {t : TypeId} {cs : List Value} (h : Blk w b t cs) : Cl w b t := ⟨_, _, h⟩
theorem Dsk.own_cl {w : World} {d : Dk} {S : St} (h : Dsk w d S) {b : Nat} {t : TypeId} (hb : Cl w b t) (h1 : t ≠ 115) (h2 : t ≠ 117) : ¬ d.own b := by
 obtain ⟨_, hr, ⟨cur, hg, _⟩, k, _, hm⟩ := h; obtain ⟨es, cl, hm⟩ := hm.kind; rintro (rfl | rfl | rfl)
 · exact h1 (hb.uniq hr.cl)
 · exact h2 (hb.uniq ⟨_, _, hg⟩)
 · obtain ⟨cs, q, hb⟩ := hb; rw [hm] at hb; cases hb
def OwB (w : World) (A : Option Addr) (n c : Nat) (xs : List UInt8) : Prop := w.ownsRow 0 5 1 (.slice A n c) n (cellsOf xs)
section
variable {w w' : World} {A : Option Addr} {n c : Nat} {xs : List UInt8}
theorem OwB.rd (h : OwB w A n c xs) : Rd w A n xs := Rd.of_own h
theorem OwB.cap (h : OwB w A n c xs) : n ≤ c := own_cap h
theorem OwB.cl (h : OwB w A n c xs) {g : Nat} (hg : blkOf A = some g) : Cl w g 5 := by
 rcases h.2 with ⟨h0, _⟩ | ⟨g', cap, cur, hv, hb, hh, _⟩
 · injection h0 with h0; rw [h0] at hg; cases hg
 · injection hv with hA
   rw [hA] at hg; cases hg; exact ⟨_, _, hh⟩
theorem OwB.keep (h : OwB w A n c xs) (e : ∀ g, blkOf A = some g → w'.heap[g]? = w.heap[g]?) : OwB w' A n c xs := by
 refine ⟨h.1, ?_⟩; rcases h.2 with h0 | ⟨g, cap, cur, hv, hb, hh, r⟩
 · exact .inl h0
 · refine .inr ⟨g, cap, cur, hv, hb, ?_, r⟩; injection hv with hA
   rw [e g (by rw [hA]; rfl)]; exact hh
theorem OwB.turned (h : OwB w A n c xs) {T : Nat → Prop} (t : Turned w w' T) (hn : ∀ g, blkOf A = some g → ¬ T g) : OwB w' A n c xs := h.keep fun g hg => t.block g (h.cl hg).lt (hn g hg)
theorem OwB.below (h : OwB w A n c xs) (hb : Below w.heap.size w w') : OwB w' A n c xs := h.keep fun g hg => hb.block g (h.cl hg).lt
theorem OwB.of_row {base : Nat} (h : w.ownsRow base 5 1 (.slice A n c) n (cellsOf xs)) : OwB w A n c xs := own_mono h (Nat.zero_le _)
end
abbrev Sheet := Int × List UInt8
def RdSh (w : World) (A : Option Addr) (n : Nat) (l : List Sheet) : Prop :=
 l.length = n ∧ (0 < n → ∃ g, A = some ⟨g, 0, none⟩ ∧ Cl w g 95 ∧ ∀ k (h : k < l.length), ∃ B c, w.cell? ⟨g, k * 2, none⟩ = some (.int .i64 l[k].1) ∧ w.cell? ⟨g, k * 2 + 1, none⟩ = some (.slice B 256 c) ∧ OwB w B 256 c l[k].2)
section
variable {w w' : World} {A : Option Addr} {n : Nat} {l : List Sheet}
theorem RdSh.turned (h : RdSh w A n l) {T : Nat → Prop} (t : Turned w w' T) (hn : ∀ b, Cl w b 95 ∨ Cl w b 5 → ¬ T b) : RdSh w' A n l := ⟨h.1, fun h0 => by
 obtain ⟨g, e, hc, hk⟩ := h.2 h0; have eg := t.block g hc.lt (hn g (.inl hc)); refine ⟨g, e, hc.keep eg, fun k hkl => ?_⟩; obtain ⟨B, c, h1, h2, h3⟩ := hk k hkl; refine ⟨B, c, ?_, ?_, h3.turned t fun g' hg' => hn g' (.inr (h3.cl hg'))⟩
 · rw [World.cell?_of_block (w := w) (a := ⟨g, k * 2, none⟩) eg]; exact h1
 · rw [World.cell?_of_block (w := w) (a := ⟨g, k * 2 + 1, none⟩) eg]; exact h2⟩
theorem RdSh.below (h : RdSh w A n l) (hb : Below w.heap.size w w') : RdSh w' A n l := h.turned (Turned.of_below hb (fun _ => False)) fun _ _ h => h
theorem RdSh.at_ (h : RdSh w A n l) {k : Nat} (hk : k < n) : ∃ g B c, A = some ⟨g, 0, none⟩ ∧ w.cell? ⟨g, k * 2, none⟩ = some (.int .i64 (l[k]'(by rw [h.1]; exact hk)).1) ∧ w.cell? ⟨g, k * 2 + 1, none⟩ = some (.slice B 256 c) ∧ OwB w B 256 c (l[k]'(by rw [h.1]; exact hk)).2 := by
 obtain ⟨g, e, _, hc⟩ := h.2 (by omega); obtain ⟨B, c, h1, h2, h3⟩ := hc k (by rw [h.1]; exact hk); exact ⟨g, B, c, e, h1, h2, h3⟩
end
def putS : St → List Sheet → St × Int
 | S, [] => (S.trySync, syncE S)
 | S, x :: r => if writeE S x.1 256 = 0 then putS (S.tryWrite x.1 x.2) r else (S, writeE S x.1 256)
theorem try_no {S : St} {p : Int} {xs : List UInt8} (h : writeE S p 256 ≠ 0) : S.tryWrite p xs = S := by
 unfold writeE at h; unfold St.tryWrite
 split at h
 · rw [if_pos (by assumption)]
 · rename_i h1
   rw [if_neg h1]
   split at h
   · rename_i h2; rw [if_pos h2]
   · simp at h
theorem try_done (S : St) (p : Int) (xs : List UInt8) : (S.tryWrite p xs).done ≤ S.done + 1 := by
 unfold St.tryWrite
 repeat' split
 all_goals first | exact Nat.le_succ _ | exact Nat.le_refl _
theorem Left.trans {w w1 w2 : World} {d : Dk} {S S' : St} (h : Left w d S w1) (k : Left w1 d S' w2) : Left w d S' w2 := ⟨k.1, h.2.trans k.2⟩
theorem Left.keepSh {w w' : World} {d : Dk} {S S' : St} (h : Dsk w d S') (k : Left w d S w') {A : Option Addr} {n : Nat} {l : List Sheet} (hs : RdSh w A n l) : RdSh w' A n l :=
 hs.turned k.2 fun b hb => by
  rcases hb with hb | hb
  · exact h.own_cl hb (by decide) (by decide)
  · exact h.own_cl hb (by decide) (by decide)
def PutK (w : World) (d : Dk) (S : St) (l : List Sheet) (k : Nat) (wr : World) : Prop :=
 ∃ Sk, Left w d Sk wr ∧ putS Sk (l.drop k) = putS S l ∧ Sk.done ≤ S.done + k
theorem put_any (d : Dk) (S : St) (A : Option Addr) (n c : Nat) (l : List Sheet) (w : World) (h : Dsk w d S) (hs : RdSh w A n l) (hn : n ≤ 5000) (hd : S.done ≤ 900000) :
 Calls Tryz.prog 68 #[.pointer (some ⟨d.r, 0, none⟩), .slice A n c] w fun e w' => e = .returned (.int .i64 (putS S l).2) ∧ Hid (Left w d (putS S l).1 w') := by
 have HS := kept (fun (W : World) (X : St) (hX : Left w d X W) => hX.keepSh h hs); have HL := kept hs.1; have HD := kept hd; have H0 : Hid (PutK w d S l 0 w) := kept ⟨S, Left.refl h, rfl, Nat.le_refl _⟩; clear h hs hd; go_enter Tryz.func68, Tryz.ntmps68; go_wp2; go_loopw [10] (fun i wr => ∃ k : Nat, k ≤ n ∧ i = .int .i64 (k : Int) ∧ Hid (PutK w d S l k wr)) (fun i _ => n - (intOf i).toNat)
 case atStart => exact ⟨0, Nat.zero_le _, rfl, H0⟩
 case round =>
  obtain ⟨k, hk, rfl, hrel⟩ := hrel; obtain ⟨Sk, hl, hp, hdn⟩ := hrel.out; have HK := kept hl; have HP := kept hp; have HN := kept hdn; clear hl hp hdn hrel H0; by_cases hlt : k < n
  · have hkl : k < l.length := by rw [HL.out]; exact hlt
    obtain ⟨g, B, c', rfl, c0, c1, hB⟩ := (HS.out _ _ HK.out).at_ hlt; have HDR : Hid (l.drop k = l[k] :: l.drop (k + 1)) := kept (List.drop_eq_getElem_cons hkl); have HPB : Hid (putS Sk (l[k] :: l.drop (k + 1)) = putS S l) := kept (by rw [← HDR.out]; exact HP.out); have HB := kept hB; generalize l[k] = x at c0 HDR HPB HB; obtain ⟨p, xs⟩ := x; simp only at c0 HB; have HW := kept (fun (o : Obj) => write_any d Sk p B c' xs _ (HK.out.1.below ((Below.refl _ wr).alloc (Nat.le_refl _) o)) (HB.out.rd.below ((Below.refl _ wr).alloc (Nat.le_refl _) o)) (by have := HN.out; have := HD.out; omega)); have HLA := kept (fun (o : Obj) => Left.of_dsk HK.out.1 ((Below.refl _ wr).alloc (Nat.le_refl _) o)); clear hB HP; by_cases he : writeE Sk p 256 = 0
    · rw [he] at HW; have HE : Hid (putS (Sk.tryWrite p xs) (l.drop (k + 1)) = putS S l) := kept (by
       have := HPB.out; rw [putS, if_pos he] at this; exact this)
      clear he HPB; go_wp2_with (first | (go_at_call 28; (with_reducible refine (HW.out _).mono ?_); rintro e w1 ⟨rfl, h1⟩))
      have HG : Hid (PutK w d S l (k + 1) w1) := kept ⟨_, HK.out.trans ((HLA.out _).trans h1.out), HE.out, by have := try_done Sk p xs; have := HN.out; omega⟩; clear h1; go_roundw
      case rel => exact ⟨k + 1, by omega, by go_num, HG⟩
      case measure => simp [intOf]; omega
    · have HE : Hid (putS S l = (Sk, writeE Sk p 256)) := kept (by
       have := HPB.out; rw [putS, if_neg he] at this; exact this.symm)
      have HT : Hid (Sk.tryWrite p xs = Sk) := kept (try_no he); have hb : (writeE Sk p 256 != 0) = true := by simpa using he
      rw [HT.out] at HW; generalize writeE Sk p 256 = er at HW HE hb; clear he HPB; go_wp2_with (first | (go_at_call 28; (with_reducible refine (HW.out _).mono ?_); rintro e w1 ⟨rfl, h1⟩))
      go_ret; exact ⟨by rw [HE.out]; rfl, kept (by rw [HE.out]; exact HK.out.trans ((HLA.out _).trans h1.out))⟩
  · obtain rfl : k = n := by omega
    have HE : Hid (putS S l = (Sk.trySync, syncE Sk)) := kept (by
     have := HP.out; rw [List.drop_of_length_le (by rw [HL.out]; exact Nat.le_refl _)] at this; exact this.symm)
    have HY := kept (sync_any d Sk wr HK.out.1 (by have := HN.out; have := HD.out; omega)); go_wp2_with (first | (go_at_call 116; (with_reducible refine (HY.out).mono ?_); rintro e w1 ⟨rfl, h1⟩))
    go_ret; exact ⟨by rw [HE.out]; rfl, kept (by rw [HE.out]; exact HK.out.trans h1.out)⟩
end Go.Proofs.YtblbhhijddcbeaaGreatDoor
end
