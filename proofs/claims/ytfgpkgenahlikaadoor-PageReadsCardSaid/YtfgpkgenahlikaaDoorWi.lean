/-
  The writer's item and things.
-/
import Derived.Test.YtfgpkgenahlikaaDoorWb
namespace Go.Proofs.YtfgpkgenahlikaaDoor
open Go.ChangeShapes Go.WideShapes Go.ChangeAt Go.RowKit
set_option linter.unusedVariables false
set_option linter.unusedSimpArgs false

def encItem (x : Itm) : List UInt8 := be x.key.length 1 ++ be x.size.toNat 2 ++ x.key ++ (if x.size ≤ 64 then x.val else be x.more.toNat 4)
def encKid (x : Kd) : List UInt8 := be x.key.length 1 ++ x.key ++ be x.page.toNat 4
def encId (i : Int) : List UInt8 := be i.toNat 4
theorem encItem_length (x : Itm) : (encItem x).length = itemUse x := by
  unfold encItem itemUse
  split <;> simp [be_length] <;> omega
theorem encKid_length (x : Kd) : (encKid x).length = kidUse x := by
  unfold encKid kidUse
  simp [be_length]
  omega
/-- What stood before the writer was made stands. -/
def Fr (w0 : World) (b : Nat) (w : World) : Prop := Below w0.heap.size w0 w ∧ w0.heap.size ≤ b
section
variable {w0 w w' : World} {b : Nat}
theorem Fr.only (h : Fr w0 b w) (k : Only w w' b) : Fr w0 b w' := ⟨k.below h.1 h.1.size h.2, h.2⟩
theorem Only.cell_ (k : Only w w' b) {p : Addr} {v : Value} (hp : p.block ≠ b) (h : w.cell? p = some v) : w'.cell? p = some v := by
  have hl := World.block_lt_of_cell? w _ h
  exact (World.cell?_of_block (k.block p.block hl (fun e => hp (Option.some.inj e)))).trans h
theorem Only.alloc_ (w : World) (o : Obj) (b : Nat) : Only w (w.alloc o) b := Only.of_below ((Below.refl _ _).alloc (Nat.le_refl _) o)
theorem Fr.alloc (h : Fr w0 b w) (o : Obj) : Fr w0 b (w.alloc o) := h.only (Only.alloc_ w o b)
theorem Wr.alloc {xs : List UInt8} (h : Wr w b xs) (o : Obj) : Wr (w.alloc o) b xs := h.below ((Below.refl _ _).alloc (Nat.le_refl _) o)
end
theorem itemOk_parts {x : Itm} (h : itemOk x = true) : x.key.length ≤ 32 ∧ 0 ≤ x.size ∧ x.size ≤ 4096 ∧ (x.size ≤ 64 → (x.val.length : Int) = x.size ∧ x.more = 0) ∧ (64 < x.size → x.val.length = 0 ∧ 1 ≤ x.more ∧ x.more < 1024) := by
  unfold itemOk at h
  simp only [Bool.and_eq_true, decide_eq_true_eq] at h
  obtain ⟨⟨⟨h1, h2⟩, h3⟩, h4⟩ := h
  refine ⟨h1, h2, h3, fun hs => ?_, fun hs => ?_⟩
  · rw [if_pos hs] at h4
    simpa using h4
  · rw [if_neg (by omega)] at h4
    simpa [isPg] using h4
set_option maxRecDepth 100000 in
set_option maxHeartbeats 1000000 in
theorem witem_any (w0 : World) (b : Nat) (xs : List UInt8) (L : LayI) (x : Itm) (w : World) (hw : Wr w b xs) (hr : RdIt w0 L x) (hf : Fr w0 b w) (hok : itemOk x = true) (hfit : xs.length + itemUse x ≤ 252) :
    Calls Tryd.prog 66 #[.pointer (some ⟨b, 0, none⟩), L.val] w fun e w' => e = .returned (.tuple #[]) ∧ Hid (Wr w' b (xs ++ encItem x) ∧ Only w w' b) := by
  obtain ⟨p1, p2, p3, p4, p5⟩ := itemOk_parts hok
  have hlen : itemUse x = 3 + x.key.length + (if x.size ≤ 64 then x.val.length else 4) := rfl
  have hkl := hr.1.1
  have hvl := hr.2.1.1
  have hsz := hr.2.2.1
  have hmo := hr.2.2.2.1
  have HRD := fun {X : World} (h : Fr w0 b X) => kept (show Rd X L.ka L.kn x.key ∧ Rd X L.va L.vn x.val from ⟨hr.1.below h.1, hr.2.1.below h.1⟩)
  have HE : Hid (encItem x = be x.key.length 1 ++ be x.size.toNat 2 ++ x.key ++ (if x.size ≤ 64 then x.val else be x.more.toNat 4)) := rfl
  have HWR := kept hw
  have HF := kept hf
  have hbl := hw.lt
  obtain ⟨key, val, size, more⟩ := x
  obtain ⟨ka, kn, kc, va, vn, vc, size', more'⟩ := L
  simp only at p1 p2 p3 p4 p5 hlen hkl hvl hsz hmo HRD HE
  subst hsz hmo
  rw [hlen] at hfit
  obtain ⟨sn, rfl⟩ := Int.eq_ofNat_of_zero_le p2
  have HO0 : Hid (Only w (w.alloc (.cells #[.slice ka kn kc, .slice va vn vc, .int .i64 (sn : Int), .int .i64 more] 67)) b) := kept (Only.alloc_ _ _ _)
  have HS : Hid (∀ {X : World}, Only (w.alloc (.cells #[.slice ka kn kc, .slice va vn vc, .int .i64 (sn : Int), .int .i64 more] 67)) X b → X.cell? ⟨w.heap.size, 0, none⟩ = some (.slice ka kn kc) ∧ X.cell? ⟨w.heap.size, 1, none⟩ = some (.slice va vn vc) ∧ X.cell? ⟨w.heap.size, 2, none⟩ = some (.int .i64 (sn : Int)) ∧ X.cell? ⟨w.heap.size, 3, none⟩ = some (.int .i64 more)) := kept (fun h => by
    have key : ∀ (i : Nat) (v : Value), #[Value.slice ka kn kc, .slice va vn vc, .int .i64 (sn : Int), .int .i64 more][i]? = some v → (w.alloc (.cells #[.slice ka kn kc, .slice va vn vc, .int .i64 (sn : Int), .int .i64 more] 67)).cell? ⟨w.heap.size, i, none⟩ = some v := fun i v hv => by rw [cell_of_row _ w.heap.size i _ _ _ (heap_alloc_new w _)]; exact hv
    exact ⟨h.cell_ (by simp; omega) (key 0 _ rfl), h.cell_ (by simp; omega) (key 1 _ rfl), h.cell_ (by simp; omega) (key 2 _ rfl), h.cell_ (by simp; omega) (key 3 _ rfl)⟩)
  have HKL := kept hkl
  have HVL := kept hvl
  rw [hkl, hvl] at hfit
  rw [hkl] at p1
  rw [hvl] at p4 p5
  have HSN : Hid (((sn : Int)).toNat = sn) := kept (Int.toNat_natCast sn)
  clear hw hr hf hok hkl hvl hlen
  by_cases hin : (sn : Int) ≤ 64
  · obtain ⟨q1, q2⟩ := p4 hin
    rw [if_pos hin] at hfit
    have H1 := kept (wnum1 b xs kn _ (HWR.out.alloc (.cells #[.slice ka kn kc, .slice va vn vc, .int .i64 (sn : Int), .int .i64 more] 67)) (by omega) (by omega))
    clear p4 p5 q1 q2
    go_enter Tryd.func66, Tryd.ntmps66
    go_wp2_with fail
    with_reducible refine H1.out.mono ?_
    rintro e w1 ⟨rfl, h1⟩
    obtain ⟨z0, z1, z2, z3⟩ := HS.out h1.out.2
    have H2 := kept (wnum2 b _ sn w1 h1.out.1 (by rw [List.length_append, be_length]; omega) (by omega))
    go_wp2_with fail
    with_reducible refine H2.out.mono ?_
    rintro e w2 ⟨rfl, h2⟩
    have HO2 := kept (h1.out.2.trans h2.out.2)
    obtain ⟨y0, y1, y2, y3⟩ := HS.out HO2.out
    have H3 := kept (wbytes_any b _ key ka kn kc w2 h2.out.1 (HRD (HF.out.only (HO0.out.trans HO2.out))).out.1 (by rw [List.length_append, List.length_append, be_length, be_length]; omega))
    go_wp2_with fail
    with_reducible refine H3.out.mono ?_
    rintro e w3 ⟨rfl, h3⟩
    have HO3 := kept (HO2.out.trans h3.out.2)
    obtain ⟨x0, x1, x2, x3⟩ := HS.out HO3.out
    have H4 := kept (wbytes_any b _ val va vn vc w3 h3.out.1 (HRD (HF.out.only (HO0.out.trans HO3.out))).out.2 (by rw [List.length_append, List.length_append, List.length_append, be_length, be_length, HKL.out]; omega))
    go_wp2_with (first | (go_at_call 96; (with_reducible refine (isInline_any _ _ true (by simpa using hin)).mono ?_); rintro e w' ⟨rfl, rfl⟩) | (go_at_call 65; (with_reducible refine (H4.out).mono ?_); rintro e w4 ⟨rfl, h4⟩))
    go_end0
    refine ⟨rfl, ?_, HO0.out.trans (HO3.out.trans h4.out.2)⟩
    have := h4.out.1
    rw [HE.out, if_pos hin, HKL.out, HSN.out]
    simpa only [List.append_assoc] using this
  · obtain ⟨q1, q2, q3⟩ := p5 (by omega)
    rw [if_neg hin] at hfit
    obtain ⟨mn, rfl⟩ := Int.eq_ofNat_of_zero_le (show 0 ≤ more by omega)
    have HMN : Hid (((mn : Int)).toNat = mn) := kept (Int.toNat_natCast mn)
    have H1 := kept (wnum1 b xs kn _ (HWR.out.alloc (.cells #[.slice ka kn kc, .slice va vn vc, .int .i64 (sn : Int), .int .i64 (mn : Int)] 67)) (by omega) (by omega))
    clear p4 p5 q1
    go_enter Tryd.func66, Tryd.ntmps66
    go_wp2_with fail
    with_reducible refine H1.out.mono ?_
    rintro e w1 ⟨rfl, h1⟩
    obtain ⟨z0, z1, z2, z3⟩ := HS.out h1.out.2
    have H2 := kept (wnum2 b _ sn w1 h1.out.1 (by rw [List.length_append, be_length]; omega) (by omega))
    go_wp2_with fail
    with_reducible refine H2.out.mono ?_
    rintro e w2 ⟨rfl, h2⟩
    have HO2 := kept (h1.out.2.trans h2.out.2)
    obtain ⟨y0, y1, y2, y3⟩ := HS.out HO2.out
    have H3 := kept (wbytes_any b _ key ka kn kc w2 h2.out.1 (HRD (HF.out.only (HO0.out.trans HO2.out))).out.1 (by rw [List.length_append, List.length_append, be_length, be_length]; omega))
    go_wp2_with fail
    with_reducible refine H3.out.mono ?_
    rintro e w3 ⟨rfl, h3⟩
    have HO3 := kept (HO2.out.trans h3.out.2)
    obtain ⟨x0, x1, x2, x3⟩ := HS.out HO3.out
    have H4 := kept (wid_any b _ mn w3 h3.out.1 (by rw [List.length_append, List.length_append, List.length_append, be_length, be_length, HKL.out]; omega) (by omega))
    go_wp2_with (first | (go_at_call 96; (with_reducible refine (isInline_any _ _ false (by simpa using hin)).mono ?_); rintro e w' ⟨rfl, rfl⟩) | (go_at_call 35; (with_reducible refine (H4.out).mono ?_); rintro e w4 ⟨rfl, h4⟩))
    go_end0
    refine ⟨rfl, ?_, HO0.out.trans (HO3.out.trans h4.out.2)⟩
    have := h4.out.1
    rw [HE.out, if_neg (by omega), HKL.out, HSN.out, HMN.out]
    simpa only [List.append_assoc] using this
end Go.Proofs.YtfgpkgenahlikaaDoor
