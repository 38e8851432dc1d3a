/-
  Texts laid together: Qu Qv.
-/
import Derived.Test.YtdjcahhofonclaaGreatDoorBQo
section
/-
  What a disk shows behind writes, syncs and crashes; what Open finds on it. No call is walked here.
-/
namespace Go.Proofs.YtdjcahhofonclaaGreatDoor
open Go.ChangeShapes Go.WideShapes Go.ChangeAt Go.RowKit
set_option linter.unusedVariables false
set_option linter.unusedSimpArgs false

/-! ### pages -/
def inR (S : St) (y : Int) : Prop := 0 ≤ y ∧ y < (S.pages.length : Int)
theorem page_none {S : St} {y : Int} (h : S.cache y = none) : S.page y = S.pages.getD y.toNat [] := by unfold St.page; rw [h]; rfl
theorem write_page (S : St) (p y : Int) (xs : List UInt8) : (S.write p xs).page y = if y = p then xs else S.page y := by
  unfold St.write St.count St.page
  simp only
  by_cases h : y = p <;> simp [h]
theorem laidAll_page {S : St} {new : Nat → List UInt8} {fu : Int} {dn : Nat} {y : Int} (h : inR S y) : (⟨S.laidAll new, fun _ => none, fu, dn⟩ : St).page y = if (S.cache y).isSome then new y.toNat else S.page y := by
  unfold St.page
  obtain ⟨k, rfl⟩ := Int.eq_ofNat_of_zero_le h.1
  have hk : k < S.pages.length := by have := h.2; omega
  show (S.laidAll new).getD k [] = _
  unfold St.laidAll laid
  rw [List.getD_eq_getElem?_getD, List.getElem?_map, List.getElem?_range hk]
  simp only [Option.map_some, Option.getD_some, true_and]
  cases hc : S.cache (k : Int) with
  | none => simp
  | some v => simp
theorem sync_page {S : St} {y : Int} (h : inR S y) : S.sync.page y = S.page y := by
  have := laidAll_page (S := S) (new := fun i => S.page (i : Int)) (fu := S.sync.fuse) (dn := S.sync.done) h
  have e : S.sync = ⟨S.laidAll (fun i => S.page (i : Int)), fun _ => none, S.sync.fuse, S.sync.done⟩ := rfl
  rw [e, this]
  split
  · rw [show ((y.toNat : Nat) : Int) = y by have := h.1; omega]
  · rfl
theorem crash_page {S : St} {l : List (Int × Int)} {y : Int} (h : inR S y) : (S.crash l).page y = if (S.cache y).isSome then S.torn l y.toNat else S.page y := by
  have := laidAll_page (S := S) (new := S.torn l) (fu := -1) (dn := S.done) h
  exact this
theorem crash_page_none {S : St} {l : List (Int × Int)} {y : Int} (h : inR S y) (hc : S.cache y = none) : (S.crash l).page y = S.page y := by
  rw [crash_page h, hc]; rfl

/-! ### put -/
def ids (l : List Sheet) : List Int := l.map (·.1)
theorem tryWrite_eq {S : St} {p : Int} {xs : List UInt8} (h : writeE S p 256 = 0) : S.tryWrite p xs = S.write p xs := by
  unfold writeE at h
  unfold St.tryWrite
  split at h
  · omega
  · rename_i h1
    split at h
    · omega
    · rename_i h2
      rw [if_neg h1, if_neg h2]
theorem writeE_dead {S : St} {p : Int} (hp : inR S p) (h : writeE S p 256 ≠ 0) : writeE S p 256 = 10 ∧ S.fuse = 0 := by
  unfold writeE at h ⊢
  unfold inR at hp
  by_cases hf : S.fuse = 0
  · rw [if_pos hf]; exact ⟨rfl, hf⟩
  · rw [if_neg hf, if_neg (by omega), if_pos rfl] at h
    exact absurd rfl h
/-- What put leaves: done, or dead in the midst of it. -/
structure PutSpec (S : St) (l : List Sheet) (R : St × Int) : Prop where
  er : R.2 = 0 ∨ R.2 = 10
  len : R.1.pages.length = S.pages.length
  good : R.2 = 0 → (∀ y, R.1.cache y = none) ∧ ∀ y, inR S y → y ∉ ids l → R.1.page y = S.page y
  bad : R.2 ≠ 0 → R.1.pages = S.pages ∧ ∀ y, y ∉ ids l → R.1.cache y = S.cache y
theorem putS_spec : ∀ (l : List Sheet) (S : St), (∀ x ∈ l, inR S x.1) → PutSpec S l (putS S l)
  | [], S, _ => by
    have e : putS S [] = (S.trySync, syncE S) := rfl
    rw [e]
    unfold St.trySync syncE
    by_cases hf : S.fuse = 0
    · rw [if_pos hf, if_pos hf]
      exact ⟨.inr rfl, rfl, fun h => absurd (show (10 : Int) = 0 from h) (by decide), fun _ => ⟨rfl, fun y _ => rfl⟩⟩
    · rw [if_neg hf, if_neg hf]
      exact ⟨.inl rfl, sync_len S, fun _ => ⟨fun y => rfl, fun y hy _ => sync_page hy⟩, fun h => absurd rfl h⟩
  | x :: r, S, hl => by
    have hx := hl x (List.mem_cons_self ..)
    unfold putS
    by_cases he : writeE S x.1 256 = 0
    · rw [if_pos he, tryWrite_eq he]
      have hlen : (S.write x.1 x.2).pages.length = S.pages.length := rfl
      have ih := putS_spec r (S.write x.1 x.2) (fun y hy => by unfold inR; rw [hlen]; exact hl y (List.mem_cons_of_mem _ hy))
      refine ⟨ih.er, ih.len.trans hlen, fun h0 => ⟨(ih.good h0).1, fun y hy hn => ?_⟩, fun h0 => ⟨(ih.bad h0).1, fun y hn => ?_⟩⟩
      · have hn' : y ≠ x.1 ∧ y ∉ ids r := by simpa [ids] using hn
        rw [(ih.good h0).2 y (by unfold inR; rw [hlen]; exact hy) hn'.2, write_page, if_neg hn'.1]
      · have hn' : y ≠ x.1 ∧ y ∉ ids r := by simpa [ids] using hn
        rw [(ih.bad h0).2 y hn'.2]
        show (if y = x.1 then some x.2 else S.cache y) = _
        rw [if_neg hn'.1]
    · rw [if_neg he]
      obtain ⟨h1, h2⟩ := writeE_dead hx he
      exact ⟨.inr h1, rfl, fun h0 => absurd h0 he, fun _ => ⟨rfl, fun y _ => rfl⟩⟩
/-- Behind a put that is done each sheet stands where it should. -/
theorem putS_has : ∀ (l : List Sheet) (S : St), (∀ x ∈ l, inR S x.1) → (ids l).Nodup → (putS S l).2 = 0 → ∀ x ∈ l, (putS S l).1.page x.1 = x.2
  | [], S, _, _, _ => fun x hx => by cases hx
  | x :: r, S, hl, hn, h0 => by
    have hx := hl x (List.mem_cons_self ..)
    have hn2 : x.1 ∉ ids r ∧ (ids r).Nodup := by simpa [ids] using hn
    unfold putS at h0 ⊢
    by_cases he : writeE S x.1 256 = 0
    · rw [if_pos he] at h0 ⊢
      rw [tryWrite_eq he] at h0 ⊢
      have hr : ∀ y ∈ r, inR (S.write x.1 x.2) y.1 := fun y hy => hl y (List.mem_cons_of_mem _ hy)
      intro y hy
      rcases List.mem_cons.1 hy with rfl | hy
      · rw [((putS_spec r (S.write y.1 y.2) hr).good h0).2 y.1 hx hn2.1, write_page, if_pos rfl]
      · exact putS_has r (S.write x.1 x.2) hr hn2.2 h0 y hy
    · rw [if_neg he] at h0
      exact absurd h0 he

/-! ### what Open finds -/
theorem addAll_nil {I : List Int} (h : Rising I) : addAll [] I = I := Rising.uniq (Rising.addAll Rising.nil_ _) h fun z => by rw [mem_addAll]; simp
theorem isPg_of {x : Int} {z : Nat} (h : 2 ≤ x ∧ x < (z : Int)) (hz : z ≤ 1024) : isPg x = true := by simp [isPg]; omega
theorem rchain_laid (S : St) (t : Nat) (ht : t < 18446744073709551616) (hz : S.pages.length ≤ 1024) : ∀ (C I C0 I0 : List Int) (k : Nat), (∀ x ∈ layC t C I, S.page x.1 = x.2) → (C0 ++ C).Nodup → (∀ x ∈ C, 2 ≤ x ∧ x < (S.pages.length : Int)) → Rising I → (∀ x ∈ I, isPg x = true) → I.length ≤ 59 * C.length → C.length < k →
    rchain S k (headN C) C0 I0 = (0, C0 ++ C, I0 ++ I)
  | [], I, C0, I0, k, _, _, _, _, _, hl, hk => by
    obtain ⟨k', rfl⟩ : ∃ k', k = k' + 1 := ⟨k - 1, by simp at hk; omega⟩
    have : I = [] := List.eq_nil_of_length_eq_zero (by simpa using hl)
    subst this
    simp [rchain, headN]
  | c :: r, I, C0, I0, k, hp, hn, hb, hr, hi, hl, hk => by
    obtain ⟨k', rfl⟩ : ∃ k', k = k' + 1 := ⟨k - 1, by simp at hk; omega⟩
    have hc := hb c (List.mem_cons_self ..)
    have hpc : S.page c = sealed (bodyOf (spareP t (headN r) (I.take 59))) := hp _ (by rw [layC]; exact List.mem_cons_self ..)
    have hrt : rightB (spareP t (headN r) (I.take 59)) = true := right_spare (headN_ok fun x hx => isPg_of (hb x (List.mem_cons_of_mem _ hx)) hz) (hr.sublist (List.take_sublist _ _)) (fun x hx => hi x (List.mem_of_mem_take hx)) (List.length_take_le ..)
    have hd : decPg (S.page c) = (spareP t (headN r) (I.take 59), 0) := by
      rw [hpc]
      exact decPg_sealed hrt (by show (0 : Int) ≤ (t : Int); omega) (by show (t : Int) < _; omega)
    have hnc : c ∉ C0 := fun h => by
      rw [List.nodup_append] at hn
      exact hn.2.2 c h c (List.mem_cons_self ..) rfl
    show rchain S (k' + 1) c C0 I0 = _
    rw [rchain, if_neg (by omega), if_neg (by simp [finB]; omega), if_neg hnc, hd, if_neg (by simp), if_neg (by simp)]
    have ih := rchain_laid S t ht hz r (I.drop 59) (C0 ++ [c]) (I0 ++ I.take 59) k' (fun x hx => hp x (by rw [layC]; exact List.mem_cons_of_mem _ hx)) (by rw [List.append_assoc]; exact hn) (fun x hx => hb x (List.mem_cons_of_mem _ hx)) (hr.sublist (List.drop_sublist _ _)) (fun x hx => hi x (List.mem_of_mem_drop hx)) (by simp at hl ⊢; omega) (by simp at hk; omega)
    show rchain S k' (headN r) _ _ = _
    rw [ih]
    simp [List.append_assoc, List.take_append_drop]
/-- A base: what a pager has right behind a commit. -/
structure Bas (z : Nat) (B : PSt) : Prop where
  ok : B.ok z
  z1 : 8 ≤ z
  z2 : z ≤ 1024
  H : B.L.H = []
  ri : Rising B.L.S
  sb : ∀ x ∈ B.L.S, 2 ≤ x ∧ x < (z : Int)
  root : B.root = B.M.root
  sp : B.M.spare = headN B.chain
  none_ : B.add = fun _ => none
  cl : B.L.S.length ≤ 59 * B.chain.length
/-- Its chain stands on the disk. -/
def ChainOn (S : St) (B : PSt) : Prop := ∃ t : Nat, t < 18446744073709551616 ∧ ∀ x ∈ layC t B.chain B.L.S, S.page x.1 = x.2
theorem open_of {S : St} {B : PSt} (hb : Bas S.pages.length B) (hc : ChainOn S B) (hm : chooseM (S.page 0) (S.page 1) = (B.M, 0)) : openE S = 0 ∧ openS S = B := by
  obtain ⟨t, ht, hp⟩ := hc
  have hcl : B.chain.length ≤ 1022 := nodup_short hb.ok.cn hb.ok.cb hb.z2
  have hr := rchain_laid S t ht hb.z2 B.chain B.L.S [] [] 1100 hp (by simpa using hb.ok.cn) hb.ok.cb hb.ri (fun x hx => isPg_of (hb.sb x hx) hb.z2) hb.cl (by omega)
  rw [List.nil_append, List.nil_append] at hr
  have hne : newErr (S.pages.length : Int) (B.chain ++ B.L.S) = 0 := by
    unfold newErr
    rw [if_neg (by have := hb.z1; have := hb.z2; omega), if_pos (List.all_eq_true.2 (fun x hx => by
      rcases List.mem_append.1 hx with hx | hx
      · have := hb.ok.cb x hx; simp [finB]; omega
      · have := hb.sb x hx; simp [finB]; omega)), if_pos]
    rw [List.nodup_append]
    refine ⟨hb.ok.cn, hb.ri.imp fun h => by omega, fun x hx y hy e => (hb.ok.cs x hx).1 (e ▸ hy)⟩
  constructor
  · unfold openE
    rw [hm]
    simp only
    rw [if_neg (by simp), if_neg (by simpa using hb.ok.mz), hb.sp, hr, if_neg (by simp), hb.ok.mz, if_neg (by simpa using hne)]
  · unfold openS
    rw [hm]
    simp only
    rw [hb.sp, hr, addAll_nil hb.ri, hb.ok.mz, ← hb.root]
    have h1 := hb.ok.lz
    have h2 := hb.H
    have h3 := hb.none_
    obtain ⟨M, C, root, ⟨lz, lS, lH⟩, add⟩ := B
    simp only at h1 h2 h3 ⊢
    rw [h1, h2, h3]

/-! ### a committed disk -/
theorem choose_two {e l : Mt} (re : rightM e = true) (rl : rightM l = true) (tl : l.txn < 18446744073709551616) (tx : e.txn + 1 = l.txn) :
    (if l.txn % 2 = 0 then chooseM (sealed (bodyM l)) (sealed (bodyM e)) else chooseM (sealed (bodyM e)) (sealed (bodyM l))) = (l, 0) := by
  by_cases hp : l.txn % 2 = 0
  · rw [if_pos hp]
    unfold chooseM
    rw [stand_yes (by omega) re (k := 1) (by omega), stand_yes tl rl (k := 0) (by omega)]
    simp
    omega
  · rw [if_neg hp]
    unfold chooseM
    rw [stand_yes (by omega) re (k := 0) (by omega), stand_yes tl rl (k := 1) (by omega)]
    simp
    omega
structure OnDisk (S : St) (B : PSt) (el : Mt) : Prop where
  bas : Bas S.pages.length B
  cache : ∀ y, S.cache y = none
  rl : rightM B.M = true
  re : rightM el = true
  tx : el.txn + 1 = B.M.txn
  pl : S.page ((B.M.txn % 2 : Nat) : Int) = sealed (bodyM B.M)
  pe : S.page ((el.txn % 2 : Nat) : Int) = sealed (bodyM el)
  chain : ChainOn S B
theorem choose_pages {S : St} {l e : Mt} (re : rightM e = true) (rl : rightM l = true) (tl : l.txn < 18446744073709551616) (tx : e.txn + 1 = l.txn) (pl : S.page ((l.txn % 2 : Nat) : Int) = sealed (bodyM l)) (pe : S.page ((e.txn % 2 : Nat) : Int) = sealed (bodyM e)) : chooseM (S.page 0) (S.page 1) = (l, 0) := by
  have h := choose_two re rl tl tx
  by_cases hp : l.txn % 2 = 0
  · rw [if_pos hp] at h
    rw [hp] at pl
    rw [show e.txn % 2 = 1 by omega] at pe
    rw [show S.page 0 = sealed (bodyM l) from pl, show S.page 1 = sealed (bodyM e) from pe]
    exact h
  · rw [if_neg hp] at h
    rw [show l.txn % 2 = 1 by omega] at pl
    rw [show e.txn % 2 = 0 by omega] at pe
    rw [show S.page 1 = sealed (bodyM l) from pl, show S.page 0 = sealed (bodyM e) from pe]
    exact h
theorem OnDisk.opens {S : St} {B : PSt} {el : Mt} (h : OnDisk S B el) : openE S = 0 ∧ openS S = B :=
  open_of h.bas h.chain (choose_pages h.re h.rl h.bas.ok.tx h.tx h.pl h.pe)
/-- A disk without a fuse is never dead. -/
theorem putS_alive : ∀ (l : List Sheet) (S : St), S.fuse = -1 → (∀ x ∈ l, inR S x.1) → (putS S l).2 = 0 ∧ (putS S l).1.fuse = -1
  | [], S, hf, _ => by
    have e : putS S [] = (S.trySync, syncE S) := rfl
    rw [e]
    unfold St.trySync syncE
    rw [if_neg (by omega), if_neg (by omega)]
    refine ⟨rfl, ?_⟩
    show (if 0 < S.fuse then S.fuse - 1 else S.fuse) = -1
    rw [if_neg (by omega), hf]
  | x :: r, S, hf, hl => by
    have hx := hl x (List.mem_cons_self ..)
    have he : writeE S x.1 256 = 0 := by
      unfold inR at hx
      unfold writeE
      rw [if_neg (by omega), if_neg (by omega), if_pos rfl]
    unfold putS
    rw [if_pos he, tryWrite_eq he]
    refine putS_alive r (S.write x.1 x.2) ?_ (fun y hy => hl y (List.mem_cons_of_mem _ hy))
    show (if 0 < S.fuse then S.fuse - 1 else S.fuse) = -1
    rw [if_neg (by omega), hf]
theorem ids_layC (t : Nat) : ∀ (C I : List Int), ids (layC t C I) = C
  | [], _ => rfl
  | c :: r, I => by
    show c :: ids (layC t r (I.drop 59)) = _
    rw [ids_layC t r]
/-! ### a formatted disk -/
def baseP (z : Nat) : PSt := ⟨meta1 z, (allIds z).take (needN (z - 2)), 0, ⟨(z : Int), (allIds z).drop (needN (z - 2)), []⟩, fun _ => none⟩
def formatted (z : Nat) : St := (putS (fresh z) (formatL z)).1
theorem allIds_nodup (z : Nat) : (allIds z).Nodup := (allIds_rising z).imp fun h => by omega
theorem formatL_ids (z : Nat) : ids (formatL z) = 0 :: 1 :: (allIds z).take (needN (z - 2)) := by
  unfold formatL
  show 0 :: 1 :: ids (layC 1 _ _) = _
  rw [ids_layC]
theorem formatL_in (z : Nat) (h1 : 8 ≤ z) : ∀ x ∈ formatL z, inR (fresh z) x.1 := fun x hx => by
  have hm : x.1 ∈ ids (formatL z) := List.mem_map_of_mem hx
  rw [formatL_ids] at hm
  have hl : ((fresh z).pages.length : Int) = (z : Int) := by rw [fresh_len]
  unfold inR
  rw [hl]
  rcases List.mem_cons.1 hm with h | hm
  · omega
  · rcases List.mem_cons.1 hm with h | hm
    · omega
    · have := mem_allIds.1 (List.mem_of_mem_take hm)
      omega
theorem formatted_spec (z : Nat) (h1 : 8 ≤ z) (h2 : z ≤ 1024) : (putS (fresh z) (formatL z)).2 = 0 ∧ (formatted z).fuse = -1 ∧ (formatted z).pages.length = z ∧ (formatted z).done ≤ 2000 ∧ OnDisk (formatted z) (baseP z) (meta0 z) := by
  have hin := formatL_in z h1
  have hal := putS_alive (formatL z) (fresh z) rfl hin
  have hsp := putS_spec (formatL z) (fresh z) hin
  have hlen : (formatted z).pages.length = z := hsp.len.trans (fresh_len z)
  have hk := needN_le (z - 2) (by omega)
  have hnd : (ids (formatL z)).Nodup := by
    rw [formatL_ids]
    have hb : ∀ x ∈ (allIds z).take (needN (z - 2)), 2 ≤ x := fun x hx => (mem_allIds.1 (List.mem_of_mem_take hx)).1
    refine List.nodup_cons.2 ⟨fun h => ?_, List.nodup_cons.2 ⟨fun h => ?_, (allIds_nodup z).sublist (List.take_sublist _ _)⟩⟩
    · rcases List.mem_cons.1 h with h | h
      · omega
      · have := hb _ h; omega
    · have := hb _ h; omega
  have hhas := putS_has (formatL z) (fresh z) hin hnd hal.1
  have hm := meta_right z h1 h2
  refine ⟨hal.1, hal.2, hlen, ?_, ⟨?_, (hsp.good hal.1).1, hm.2, hm.1, rfl, ?_, ?_, ⟨1, by omega, fun x hx => hhas x ?_⟩⟩⟩
  · have hd := putS_done (formatL z) (fresh z)
    have hl : (formatL z).length = 2 + needN (z - 2) := by
      unfold formatL
      simp only [List.length_append, layC_length, List.length_take, allIds_length, List.length_cons, List.length_nil]
      omega
    have h0 : (fresh z).done = 0 := rfl
    show (putS (fresh z) (formatL z)).1.done ≤ _
    omega
  · rw [hlen]
    have hbd : ∀ x ∈ allIds z, 2 ≤ x ∧ x < (z : Int) := fun x hx => mem_allIds.1 hx
    have hdis : ∀ x ∈ (allIds z).take (needN (z - 2)), x ∉ (allIds z).drop (needN (z - 2)) := fun x hx hy => by
      have h3 := allIds_nodup z
      rw [← List.take_append_drop (needN (z - 2)) (allIds z), List.nodup_append] at h3
      exact h3.2.2 x hx x hy rfl
    refine ⟨⟨rfl, rfl, by show (1 : Nat) < _; omega, (allIds_nodup z).sublist (List.take_sublist _ _), fun x hx => hbd x (List.mem_of_mem_take hx), fun x hx => ⟨hdis x hx, fun h => (by cases h)⟩, fun x _ h => (by cases h), fun x bs e => (by cases e)⟩, h1, h2, rfl, (allIds_rising z).sublist (List.drop_sublist _ _), fun x hx => hbd x (List.mem_of_mem_drop hx), rfl, ?_, rfl, ?_⟩
    · show (2 : Int) = headN ((allIds z).take (needN (z - 2)))
      obtain ⟨k, hk'⟩ : ∃ k, needN (z - 2) = k + 1 := ⟨needN (z - 2) - 1, by omega⟩
      obtain ⟨n, hn'⟩ : ∃ n, z - 2 = n + 1 := ⟨z - 3, by omega⟩
      rw [hk']
      unfold allIds
      rw [hn', List.range_succ_eq_map]
      rfl
    · show ((allIds z).drop (needN (z - 2))).length ≤ 59 * ((allIds z).take (needN (z - 2))).length
      rw [List.length_drop, List.length_take, allIds_length]
      have : needN (z - 2) = (z - 2 + 59) / 60 := rfl
      omega
  · exact hhas (1, sealed (bodyM (meta1 z))) (by unfold formatL; simp)
  · exact hhas (0, sealed (bodyM (meta0 z))) (by unfold formatL; simp)
  · unfold formatL
    exact List.mem_append_right _ hx
end Go.Proofs.YtdjcahhofonclaaGreatDoor
end

section
/-
  What a commit makes of a committed disk. No call is walked here.
-/
namespace Go.Proofs.YtdjcahhofonclaaGreatDoor
open Go.ChangeShapes Go.WideShapes Go.ChangeAt Go.RowKit
set_option linter.unusedVariables false
set_option linter.unusedSimpArgs false

/-- A transaction over a base. -/
structure InTr (B P : PSt) : Prop where
  M : P.M = B.M
  ch : P.chain = B.chain
  s : ∀ x ∈ P.L.S, x ∈ B.L.S
  a : ∀ x, (P.add x).isSome = true → x ∈ B.L.S
theorem InTr.refl {B : PSt} (h : B.add = fun _ => none) : InTr B B := ⟨rfl, rfl, fun x h => h, fun x hx => by rw [h] at hx; cases hx⟩
/-- There is room for the chain. -/
def RoomOk (P : PSt) : Prop := needN (P.L.S.length + P.L.H.length + P.chain.length) ≤ P.L.S.length
theorem add_range {P : PSt} {z : Nat} (h : P.ok z) (hz : z ≤ 1024) (x : Int) (hx : (P.add x).isSome = true) : 2 ≤ x ∧ x < 1024 := by
  obtain ⟨bs, e⟩ := Option.isSome_iff_exists.1 hx
  have := h.ab x bs e
  omega
theorem ids_adSh (add : Adds) : ids (adSh add) = keysL add := by
  unfold ids adSh
  rw [List.map_map]
  exact List.map_id'' (fun _ => rfl) _
theorem commitL_ids (P : PSt) : ids (commitL P) = keysL P.add ++ settleC P := by
  unfold commitL ids
  rw [List.map_append]
  show ids (adSh P.add) ++ ids (layC (P.M.txn + 1) (settleC P) (settleL P).S) = _
  rw [ids_adSh, ids_layC]
section
variable {B P : PSt} {S : St} {el : Mt} {z : Nat}
theorem commitL_sub (h : P.ok z) (hz : z ≤ 1024) (hi : InTr B P) : ∀ y ∈ ids (commitL P), y ∈ B.L.S := fun y hy => by
  rw [commitL_ids] at hy
  rcases List.mem_append.1 hy with hy | hy
  · exact hi.a y ((mem_keysL (add_range h hz) y).1 hy)
  · exact hi.s y (List.mem_of_mem_take hy)
theorem commitL_nodup (h : P.ok z) (hz : z ≤ 1024) (hr : Rising P.L.S) : (ids (commitL P)).Nodup := by
  rw [commitL_ids, List.nodup_append]
  refine ⟨(keysL_rising P.add).imp fun h => by omega, (hr.imp fun h => by omega : P.L.S.Nodup).sublist (List.take_sublist _ _), fun x hx y hy e => ?_⟩
  obtain ⟨bs, eb⟩ := Option.isSome_iff_exists.1 ((mem_keysL (add_range h hz) x).1 hx)
  exact (h.ab x bs eb).2.2.2.1 (e ▸ List.mem_of_mem_take hy)
theorem settleC_len (hk : RoomOk P) : (settleC P).length = needN (P.L.S.length + P.L.H.length + P.chain.length) := by
  unfold settleC
  rw [List.length_take]
  unfold RoomOk at hk
  omega
theorem length_addAll_le (S H : List Int) : (addAll S H).length ≤ S.length + H.length := by
  induction H generalizing S with
  | nil => exact Nat.le_refl _
  | cons x r ih =>
    have h1 := ih (addI x S)
    have h2 : (addI x S).length ≤ S.length + 1 := by
      unfold addI
      split
      · omega
      · rw [ins_length]; omega
    show (addAll (addI x S) r).length ≤ _
    simp only [List.length_cons]
    omega
theorem next_bas (h : P.ok z) (hl : P.L.ok) (h1 : 8 ≤ z) (h2 : z ≤ 1024) (ht : P.M.txn + 1 < 18446744073709551616) (hk : RoomOk P) : Bas z (nextP P) := by
  have hc : ∀ x ∈ P.chain, 2 ≤ x ∧ x < P.L.z := fun x hx => by rw [h.lz]; exact h.cb x hx
  have hL : (nextP P).L = _ := settleL_is hc
  refine ⟨nextP_ok h hl ht, h1, h2, by rw [hL], ?_, fun x hx => ?_, rfl, rfl, rfl, ?_⟩
  · rw [hL]
    exact Rising.addAll (Rising.addAll (List.Pairwise.sublist (List.drop_sublist _ _) hl.2.2.1) _) _
  · rcases (mem_settleL hc x).1 hx with hx | hx | hx
    · have := hl.2.2.2.2.1 x (List.mem_of_mem_drop hx); rw [h.lz] at this; exact this
    · have := hl.2.2.2.2.2 x hx; rw [h.lz] at this; exact this
    · exact h.cb x hx
  · rw [hL]
    show (addAll (addAll _ _) _).length ≤ 59 * (settleC P).length
    rw [settleC_len hk]
    have a1 := length_addAll_le (addAll (P.L.S.drop (needN (P.L.S.length + P.L.H.length + P.chain.length))) P.L.H) P.chain
    have a2 := length_addAll_le (P.L.S.drop (needN (P.L.S.length + P.L.H.length + P.chain.length))) P.L.H
    rw [List.length_drop] at a2
    unfold RoomOk at hk
    unfold needN at *
    omega
/-- The pages of a commit that is done: those that were added, and those that weren't. -/
structure After (S : St) (P : PSt) (S' : St) : Prop where
  new : ∀ x bs, P.add x = some bs → S'.page x = bs
  old : ∀ y, inR S y → 2 ≤ y → y ∉ ids (commitL P) → S'.page y = S.page y
theorem place_in (h1 : 8 ≤ S.pages.length) (q : Nat) : inR S ((q % 2 : Nat) : Int) := by unfold inR; omega
/-- Behind the first of the two puts. -/
theorem first_put (hd : OnDisk S B el) (h : P.ok S.pages.length) (hl : P.L.ok) (hi : InTr B P) : (∀ x ∈ commitL P, inR S x.1) ∧ PutSpec S (commitL P) (putS S (commitL P)) ∧ ((putS S (commitL P)).2 = 0 → ∀ x ∈ commitL P, (putS S (commitL P)).1.page x.1 = x.2) := by
  have hin : ∀ x ∈ commitL P, inR S x.1 := fun x hx => by
    have h1 := hd.bas.sb x.1 (commitL_sub h hd.bas.z2 hi x.1 (List.mem_map_of_mem hx))
    exact ⟨by omega, h1.2⟩
  exact ⟨hin, putS_spec _ _ hin, fun h0 => putS_has _ _ hin (commitL_nodup h hd.bas.z2 hl.2.2.1) h0⟩
theorem storeS_cases (S : St) (l : List Sheet) (t : Sheet) (h : (storeS S l t).2 = 0) : (putS S l).2 = 0 ∧ storeS S l t = putS (putS S l).1 [t] := by
  unfold storeS at h ⊢
  by_cases h1 : (putS S l).2 = 0
  · rw [if_pos h1]; exact ⟨h1, rfl⟩
  · rw [if_neg h1] at h; exact absurd h h1
theorem commit_done (hd : OnDisk S B el) (h : P.ok S.pages.length) (hl : P.L.ok) (hi : InTr B P) (ht : P.M.txn + 1 < 18446744073709551616) (hr : rightM (nextM P) = true) (hk : RoomOk P) (h0 : (commitR P S).2 = 0) :
    OnDisk (commitR P S).1 (nextP P) B.M ∧ After S P (commitR P S).1 ∧ (commitR P S).1.pages.length = S.pages.length := by
  obtain ⟨hin, hsp, hhas⟩ := first_put hd h hl hi
  obtain ⟨top, htop⟩ : ∃ t : Sheet, t = ((((P.M.txn + 1) % 2 : Nat) : Int), sealed (bodyM (nextM P))) := ⟨_, rfl⟩
  have hCR : commitR P S = storeS S (commitL P) top := by rw [htop]; rfl
  rw [hCR] at h0 ⊢
  obtain ⟨h1, hR⟩ := storeS_cases S (commitL P) top h0
  have hg := hsp.good h1
  have hH := hhas h1
  have hlenR := storeS_len S (commitL P) top
  rw [hR] at h0 hlenR ⊢
  subst htop
  have hz8 := hd.bas.z1
  have hl1 : (putS S (commitL P)).1.pages.length = S.pages.length := hsp.len
  generalize (putS S (commitL P)).1 = S1 at hg hH hl1 h0 hlenR ⊢
  have hin2 : ∀ x ∈ [((((P.M.txn + 1) % 2 : Nat) : Int), sealed (bodyM (nextM P)))], inR S1 x.1 := fun x hx => by
    rw [List.mem_singleton.1 hx]
    exact place_in (by omega) _
  have hsp2 := putS_spec _ S1 hin2
  have hg2 := hsp2.good h0
  have hh2 := putS_has _ S1 hin2 (by simp [ids]) h0 _ (List.mem_singleton.2 rfl)
  generalize (putS S1 [((((P.M.txn + 1) % 2 : Nat) : Int), sealed (bodyM (nextM P)))]).1 = S2 at hg2 hh2 hlenR ⊢
  have hsub := commitL_sub h hd.bas.z2 hi
  have hge : ∀ y ∈ ids (commitL P), 2 ≤ y := fun y hy => (hd.bas.sb y (hsub y hy)).1
  have p2 : ∀ y, inR S y → 2 ≤ y → S2.page y = S1.page y := fun y hy h2 => hg2.2 y (by unfold inR at *; rw [hl1]; exact hy) (by simp [ids]; omega)
  have hb := next_bas h hl hd.bas.z1 hd.bas.z2 ht hk
  refine ⟨⟨by rw [hlenR]; exact hb, hg2.1, hr, hd.rl, by rw [← hi.M]; rfl, hh2, ?_, ⟨P.M.txn + 1, ht, fun x hx => ?_⟩⟩, ⟨fun x bs e => ?_, fun y hy h2 hn => ?_⟩, hlenR⟩
  · rw [hg2.2 _ (by unfold inR; rw [hl1]; omega) (by simp [ids]; rw [hi.M]; omega), hg.2 _ (by unfold inR; omega) (fun hm => by have := hge _ hm; omega)]
    exact hd.pl
  · have hm : x ∈ commitL P := by unfold commitL; exact List.mem_append_right _ hx
    rw [p2 x.1 (hin x hm) (hge _ (List.mem_map_of_mem hm))]
    exact hH x hm
  · have hm : (x, bs) ∈ commitL P := by
      unfold commitL
      refine List.mem_append_left _ ?_
      unfold adSh
      exact List.mem_map.2 ⟨x, (mem_keysL (add_range h hd.bas.z2) x).2 (by rw [e]; rfl), by rw [e]; rfl⟩
    rw [p2 x (hin _ hm) (hge _ (List.mem_map_of_mem hm))]
    exact hH _ hm
  · rw [p2 y hy h2]
    exact hg.2 y hy hn
end
end Go.Proofs.YtdjcahhofonclaaGreatDoor
end
