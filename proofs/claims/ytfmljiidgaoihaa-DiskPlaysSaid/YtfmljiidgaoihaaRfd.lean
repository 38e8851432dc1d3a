/-
  terrierref03.Disk: Write in one word; Sync.
-/
import Derived.Test.YtfmljiidgaoihaaRfc
namespace Go.Proofs.Ytfmljiidgaoihaa
open Go.ChangeShapes Go.WideShapes Go.ChangeAt Go.RowKit
set_option linter.unusedVariables false

/-- What a call of the document's disk leaves. -/
def RLeft (w : World) (base r : Nat) (S : St) (w' : World) : Prop := ∃ R, RefD w' base r R ∧ Sim S R ∧ Turned w w' (RefK w base)
theorem rwrite_any (base r : Nat) (S : St) (R : RSt) (p : Int) (A : Option Addr) (cp : Nat) (xs : List UInt8) (w : World) (h : RefD w base r R) (hs : Sim S R) (hr : Rd w A 256 xs) (hd : S.done ≤ 10000) :
    Calls Try.prog 23 #[.pointer (some ⟨r, 0, none⟩), .int .i64 p, .slice A 256 cp] w fun e w' => e = .returned (.int .i64 (writeE S p 256)) ∧ Hid (RLeft w base r (S.tryWrite p xs) w') := by
  have hE := hs.hasE p
  unfold writeE St.tryWrite
  by_cases hf : S.fuse = 0
  · rw [if_pos hf] at hE
    rw [if_pos hf, if_pos hf]
    have := rwrite_no base r R p A 256 cp w h (by rw [hE]; omega)
    rw [hE] at this
    exact this.mono fun e w' ⟨a, b⟩ => ⟨a, by subst b; exact kept ⟨R, h, hs, Turned.refl _ _⟩⟩
  rw [if_neg hf] at hE
  rw [if_neg hf, if_neg hf]
  by_cases hp : p < 0 ∨ (S.pages.length : Int) ≤ p
  · rw [if_pos hp] at hE
    rw [if_pos hp, if_pos hp]
    have := rwrite_no base r R p A 256 cp w h (by rw [hE]; omega)
    rw [hE] at this
    exact this.mono fun e w' ⟨a, b⟩ => ⟨a, by subst b; exact kept ⟨R, h, hs, Turned.refl _ _⟩⟩
  rw [if_neg hp] at hE
  rw [if_neg hp, if_neg hp, if_pos rfl]
  rcases first_ix R.cache p with ⟨i, hi, k1, k2, _⟩ | ⟨k2, _⟩
  · exact (rwrite_old base r S R p i A cp xs w h hs hE hi k1 k2 hr hd).mono fun e w' ⟨a, b⟩ => ⟨a, kept ⟨_, b.out.1, (hs.did hf).put_old (R := R.did) (i := i) hi k1 k2, b.out.2⟩⟩
  · exact (rwrite_new base r S R p A cp xs w h hs hE k2 hr hd).mono fun e w' ⟨a, b⟩ => ⟨a, kept ⟨_, b.out.1, (hs.did hf).put_new (R := R.did) (p := p) k2 (Nat.succ_le_succ hs.few), b.out.2⟩⟩
theorem rwrite_any' (base r : Nat) (S : St) (R : RSt) (p : Int) (A : Option Addr) (n cp : Nat) (w : World) (h : RefD w base r R) (hs : Sim S R) (hn : n ≠ 256) :
    Calls Try.prog 23 #[.pointer (some ⟨r, 0, none⟩), .int .i64 p, .slice A n cp] w fun e w' => e = .returned (.int .i64 (writeE S p n)) ∧ w = w' := by
  have hE := hs.hasE p
  unfold writeE
  by_cases hf : S.fuse = 0
  · rw [if_pos hf] at hE
    rw [if_pos hf]
    have := rwrite_no base r R p A n cp w h (by rw [hE]; omega)
    rwa [hE] at this
  rw [if_neg hf] at hE
  rw [if_neg hf]
  by_cases hp : p < 0 ∨ (S.pages.length : Int) ≤ p
  · rw [if_pos hp] at hE
    rw [if_pos hp]
    have := rwrite_no base r R p A n cp w h (by rw [hE]; omega)
    rwa [hE] at this
  rw [if_neg hp] at hE
  rw [if_neg hp, if_neg hn]
  exact rwrite_form base r R p A n cp w h hE hn

/-! ### pages laid -/
/-- A page's row is laid in place of another. -/
theorem RefD.lay {w : World} {base r : Nat} {R : RSt} (h : RefD w base r R) {i pg c' : Nat} (hi : i < R.pages.length) (hA : w.cell? ⟨r, 0, none⟩ = some (.slice (some ⟨pg, 0, none⟩) R.pages.length c')) {v : Value} {xs : List UInt8} (hv : RowV w v xs) :
    RefD (w.setCell ⟨pg, i, none⟩ v) base r { R with pages := R.pages.set i xs } ∧ Turned w (w.setCell ⟨pg, i, none⟩ v) (RefK w base) ∧ w.frozen? ⟨pg, i, none⟩ = false ∧ pg ≠ r := by
  obtain ⟨pg', pc, cA, cc, ps, cs, hb, hbr, hop, hrp, hoc, hrc⟩ := h
  have hA' := hb.cell 0
  rw [hA] at hA'
  simp only [List.getElem?_cons_zero, Option.some.injEq, Value.slice.injEq, Addr.mk.injEq, true_and, and_true] at hA'
  obtain ⟨rfl, rfl⟩ := hA'
  have hic : i < ps.length := by rw [hrp.1]; exact hi
  obtain ⟨hgb, cur, hg⟩ := own_kind hop
  have t : Turned w (w.setCell ⟨pg, i, none⟩ v) (fun j => j = pg) := (Turned.refl w (fun j => j = pg)).setCell (T := fun j => j = pg) (p := ⟨pg, i, none⟩) (fun _ => rfl) _
  have hne : ∀ j c ty fr, w.heap[j]? = some (.cells c ty fr) → ty ≠ 26 → ¬ j = pg := fun j c ty fr hj hty e => by subst e; rw [hg] at hj; simp at hj; exact hty hj.2.1.symm
  refine ⟨⟨pg, c', cA, cc, ps.set i v, cs, ?_, hbr, ?_, ?_, own_turned hoc t (fun j c fr hj => hne j c _ fr hj (by decide)), hrc.turned t (fun j c fr hj => hne j c _ fr hj (by decide))⟩, ?_, own_frozen hop _, fun e => hne r _ _ _ hb (by decide) e.symm⟩
  · simp only [List.length_set]
    exact t.blk hb (hne r _ _ _ hb (by decide))
  · simp only [List.length_set]
    exact own_set hop (by omega) v
  · refine ⟨by simp [hrp.1], fun j h1 h2 => ?_⟩
    have hj1 : j < ps.length := by simpa using h1
    have hj2 : j < R.pages.length := by simpa using h2
    simp only [List.getElem_set]
    by_cases hij : i = j
    · subst hij
      simp only [if_true]
      exact hv.turned t (fun j c fr hj => hne j c _ fr hj (by decide))
    · simp only [hij, if_false]
      exact (hrp.2 j hj1 hj2).turned t (fun j c fr hj => hne j c _ fr hj (by decide))
  · exact t.mono fun j _ e => by subst e; exact ⟨hgb, _, _, _, hg, .inr (.inl rfl)⟩
/-- The cache is gone. -/
theorem RefD.clear {w : World} {base r : Nat} {R : RSt} (h : RefD w base r R) : RefD (w.setCell ⟨r, 1, none⟩ (.slice none 0 0)) base r { R with cache := [] } ∧ Turned w (w.setCell ⟨r, 1, none⟩ (.slice none 0 0)) (RefK w base) := by
  have hkr := h.kr
  obtain ⟨pg, pc, cA, cc, ps, cs, hb, hbr, hop, hrp, hoc, hrc⟩ := h
  have t : Turned w (w.setCell ⟨r, 1, none⟩ (.slice none 0 0)) (fun j => j = r) := (Turned.refl w (fun j => j = r)).setCell (T := fun j => j = r) (p := ⟨r, 1, none⟩) (fun _ => rfl) _
  have hne : ∀ j c ty fr, w.heap[j]? = some (.cells c ty fr) → ty ≠ 52 → ¬ j = r := fun j c ty fr hj hty e => by subst e; unfold Blk at hb; rw [hb] at hj; simp at hj; exact hty hj.2.1.symm
  refine ⟨⟨pg, pc, none, 0, ps, [], ?_, hbr, own_turned hop t (fun j c fr hj => hne j c _ fr hj (by decide)), hrp.turned t (fun j c fr hj => hne j c _ fr hj (by decide)), ⟨rfl, .inl ⟨rfl, rfl⟩⟩, ⟨rfl, fun j h1 => absurd h1 (by simp)⟩⟩, t.mono fun j _ e => by subst e; exact hkr⟩
  have := hb.set_ 1 (.slice none 0 0)
  simpa using this
/-- Entry by entry, a page is laid. -/
def layAll (F : Int → List UInt8 → List UInt8 → List UInt8) (l : List (Int × List UInt8)) (ps : List (List UInt8)) : List (List UInt8) := l.foldl (fun ps e => ps.set e.1.toNat (F e.1 e.2 (ps.getD e.1.toNat []))) ps
theorem layAll_snoc (F : Int → List UInt8 → List UInt8 → List UInt8) (l : List (Int × List UInt8)) (e : Int × List UInt8) (ps : List (List UInt8)) : layAll F (l ++ [e]) ps = (layAll F l ps).set e.1.toNat (F e.1 e.2 ((layAll F l ps).getD e.1.toNat [])) := by simp [layAll, List.foldl_append]
theorem layAll_length (F : Int → List UInt8 → List UInt8 → List UInt8) (l : List (Int × List UInt8)) : ∀ ps, (layAll F l ps).length = ps.length := by
  induction l with
  | nil => intro ps; rfl
  | cons e l ih => intro ps; show (layAll F l _).length = _; rw [ih]; simp
theorem layAll_at (F : Int → List UInt8 → List UInt8 → List UInt8) (l : List (Int × List UInt8)) : ∀ (ps : List (List UInt8)), (l.map (·.1)).Nodup → (∀ e ∈ l, 0 ≤ e.1) → ∀ i, i < ps.length →
    (layAll F l ps).getD i [] = match rfind l (i : Int) with | some xs => F i xs (ps.getD i []) | none => ps.getD i [] := by
  induction l with
  | nil => intro ps _ _ i _; rfl
  | cons e l ih =>
    intro ps hn h0 i hi
    have hn' : (l.map (·.1)).Nodup := (List.nodup_cons.1 hn).2
    have hne : e.1 ∉ l.map (·.1) := (List.nodup_cons.1 hn).1
    show (layAll F l (ps.set e.1.toNat (F e.1 e.2 (ps.getD e.1.toNat [])))).getD i [] = _
    rw [ih _ hn' (fun x hx => h0 x (by simp [hx])) i (by simpa using hi), rfind_cons]
    have he0 := h0 e (by simp)
    by_cases hei : e.1 = (i : Int)
    · rw [if_pos hei]
      have e1 : e.1.toNat = i := by omega
      have e2 : rfind l (i : Int) = none := by
        rcases first_ix l (i : Int) with ⟨j, hj, k1, _, _⟩ | ⟨_, k3⟩
        · exact absurd (List.mem_map.2 ⟨l[j], List.getElem_mem hj, k1.trans hei.symm⟩) hne
        · exact k3
      rw [e2, e1, hei]
      simp [List.getD_eq_getElem?_getD, hi]
    · rw [if_neg hei]
      have e1 : e.1.toNat ≠ i := by omega
      have e3 : (ps.set e.1.toNat (F e.1 e.2 (ps.getD e.1.toNat []))).getD i [] = ps.getD i [] := by simp [List.getD_eq_getElem?_getD, e1]
      rw [e3]
theorem layAll_laid {S : St} {R : RSt} (h : Sim S R) (ho : S.ok) (F : Int → List UInt8 → List UInt8 → List UInt8) (new : Nat → List UInt8) (hF : ∀ i xs, S.cache (i : Nat) = some xs → F i xs (S.pages.getD i []) = new i) : layAll F R.cache R.pages = S.laidAll new := by
  apply List.ext_getElem (by rw [layAll_length, h.pages]; exact (laid_length S new _).symm)
  intro i h1 h2
  have hi : i < R.pages.length := by rwa [layAll_length] at h1
  have h0 : ∀ e ∈ R.cache, 0 ≤ e.1 := fun e he => by
    have hm : (rfind R.cache e.1).isSome = true := (rfind_mem R.cache e.1).2 (by obtain ⟨j, hj, rfl⟩ := List.getElem_of_mem he; exact ⟨j, hj, rfl⟩)
    rw [h.cache] at hm
    obtain ⟨xs, hx⟩ := Option.isSome_iff_exists.1 hm
    exact (ho.2.2.1 _ _ hx).1
  have := layAll_at F R.cache R.pages h.keys h0 i hi
  rw [List.getD_eq_getElem?_getD, List.getElem?_eq_getElem h1, Option.getD_some] at this
  rw [this, h.cache, h.pages]
  simp only [St.laidAll, laid, List.getElem_map, List.getElem_range]
  cases hc : S.cache (i : Int) with
  | none => rw [if_neg (by simp)]
  | some xs => rw [if_pos ⟨trivial, rfl⟩]; exact hF i xs hc
end Go.Proofs.Ytfmljiidgaoihaa
