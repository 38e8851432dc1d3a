/- Hnr -/
import Derived.Test.YtblbhhijddcbeaaGreatDoorBHnd
import Derived.OrdersIn
section
namespace Go.Proofs.YtblbhhijddcbeaaGreatDoor
open Go.ChangeShapes Go.WideShapes Go.ChangeAt Go.RowKit
set_option linter.unusedVariables false
set_option linter.unusedSimpArgs false
set_option maxRecDepth 100000
set_option maxHeartbeats 16000000
section
variable {F : Fence} {n : Nat} {P : Program} {ops : Array Oper} {Q : Exit → Act → World → Prop} {md : Region.Mode} {C : World → Prop}
def YieldsR (P : Program) (ops : Array Oper) (C : World → Prop) (o : Oper) (v : Value) (a : Act) : Prop := YieldsIf P ops C o v a ∧ ∀ w, o.about P w a.eval = none
def noDefer (ops : Array Oper) : Prop := ∀ (j : Nat) (o : Oper), ops[j]? = some o → ∀ c, o.op ≠ .defer c
def noDeferB (ops : Array Oper) : Bool := ops.all fun o => match o.op with | .defer _ => false | _ => true
theorem noDefer_of (h : noDeferB ops = true) : noDefer ops := fun j o ho c e => by
 have h1 := Array.all_eq_true_iff_forall_mem.1 h o (Array.mem_of_getElem? ho); rw [e] at h1; cases h1
theorem YieldsR.same {o : Oper} {v : Value} {a a' : Act} (h : YieldsR P ops C o v a) (he : execOp a'.eval o = execOp a.eval o) (hw : Region.wanted o (yielded ops a'.tmps) = Region.wanted o (yielded ops a.tmps)) (hb : ∀ w, o.about P w a'.eval = o.about P w a.eval) : YieldsR P ops C o v a' :=
 ⟨h.1.of_same he hw, fun w => by rw [hb w]; exact h.2 w⟩
theorem YieldsR.one {i : Nat} {o : Oper} {v : Value} {a : Act} (hi : ops[i]? = some o) (hd : noDefer ops) (h : YieldsR P ops C o v a) {K : Act → World → Prop} {w : World} (hC : C w) (hK : K (a.put o.dst v) w) : wpOpIn F n P ops Q i K a w := by
 have hab : ∀ f, o.about P w a.eval = some f → F.fn f := fun f hf => by rw [h.2 w] at hf; cases hf
 unfold wpOpIn; simp only [hi]; rcases h.1 with ⟨hw, hv⟩ | ⟨hw, rfl⟩
 · simp only [hw, if_true, Oper.wpIn, Oper.semAt_eq _ _ _ (hd i o hi), hv w hC, Oper.uponIn]; exact ⟨hab, hK⟩
 · simp only [hw, Bool.false_eq_true, if_false]; exact ⟨hab, hK⟩
theorem wpOpIn_putR {j : Nat} {oi oj : Oper} {v : Value} (hd : noDefer ops) (hj : ops[j]? = some oj) (hap : oi.apart ops oj = true)
 (hsi : ∀ cs b, oi.op ≠ .select cs b) (hsj : ∀ cs b, oj.op ≠ .select cs b)
 (hQ : ∀ c a w, Q (.panic c) (a.put oi.dst v) w → Q (.panic c) a w) {K : Act → World → Prop} {a : Act} {w : World}
 (hy : YieldsR P ops C oi v a) (h : wpOpIn F n P ops Q j K (a.put oi.dst v) w) : wpOpIn F n P ops Q j (fun a' w' => YieldsR P ops C oi v a' ∧ K (a'.put oi.dst v) w') a w := by
 obtain ⟨h1, h2, h3⟩ := Oper.apart_spec hap; have keep : ∀ (a : Act), YieldsR P ops C oi v a → ∀ u, YieldsR P ops C oi v (a.put oj.dst u) := fun a hy u =>
  hy.same (execOp_put oi hsi a oj.dst u h3) (wanted_put oi a oj.dst u h3) (fun w => about_put oi w a oj.dst u h3)
 have keepD : ∀ d, YieldsR P ops C oi v { a with defers := d :: a.defers } := fun d => hy.same rfl rfl (fun _ => rfl)
 have hdj := hd j oj hj; unfold wpOpIn at *; simp only [hj] at *; rw [wanted_put oj a oi.dst v h1, about_put oj w a oi.dst v h1] at h
 split
 · rename_i hw
   simp only [hw, if_true] at h; unfold Oper.wpIn at *; rw [about_put oj w a oi.dst v h1] at h; refine ⟨h.1, ?_⟩; have h := h.2; rw [Oper.semAt_eq _ _ _ hdj, execOp_put oj hsj a oi.dst v h1] at h; rw [Oper.semAt_eq _ _ _ hdj]; generalize (execOp a.eval oj).run P w = res at *; cases res with
   | ok x w' =>
     cases x <;> simp only [Oper.uponIn] at h ⊢
     case value u => exact ⟨keep a hy u, by rw [← Act.put_comm a v u h2]; exact h⟩
     case skip => exact ⟨keep a hy _, by rw [← Act.put_comm a v undef h2]; exact h⟩
     case defer d =>
      refine ⟨keep _ (keepD d) _, ?_⟩; rw [← Act.put_comm _ v undef h2, ← Act.put_defers]; exact h
     case enter f args =>
      refine ⟨h.1, CallsIn.mono h.2 fun e w'' he => ?_⟩; cases e with
      | returned u => exact ⟨keep a hy u, by rw [← Act.put_comm a v u h2]; exact he⟩
      | panicked c => exact hQ _ _ _ he
      | outgrown => exact he
     case row row args => exact ⟨h.1, RowsIn.mono h.2 fun u w'' he => ⟨keep a hy u, by rw [← Act.put_comm a v u h2]; exact he⟩⟩
     case round l f tmps assign body =>
      refine ⟨h.1, RoundIn.mono h.2 fun e w'' he => ?_⟩; cases e with
      | returned u => exact ⟨keep a hy u, by rw [← Act.put_comm a v u h2]; exact he⟩
      | panicked c => exact hQ _ _ _ he
      | outgrown => exact he
   | halt x w' =>
     cases x <;> simp only [Oper.uponIn] at h ⊢
     case panic u => exact hQ _ _ _ h
 · rename_i hw
   simp only [hw] at h; exact ⟨h.1, keep a hy _, by rw [← Act.put_comm a v undef h2]; exact h.2⟩
def anyR (F : Fence) (n : Nat) (P : Program) (md : Region.Mode) (ops : Array Oper) (Q : Exit → Act → World → Prop) (C : World → Prop) : Nat → Array Bool → Act → World → Prop
 | 0, ls, a, w => Region.ready md ops ls = [] ∧ Q .normal a w
 | k + 1, ls, a, w => (Region.ready md ops ls = [] → Q .normal a w) ∧ ∀ i ∈ Region.ready md ops ls, wpOpIn F n P ops Q i (fun a' w' => C w' ∧ anyR F n P md ops Q C k (ls.setIfInBounds i true) a' w') a w
theorem any_of_R : ∀ (k : Nat) (ls : Array Bool) (a : Act) (w : World), anyR F n P md ops Q C k ls a w → wpAnyIn F n P md ops Q k ls a w
 | 0, _, _, _, h => h
 | k + 1, _, _, _, h => ⟨h.1, fun i hi => wpOpIn_mono (fun a' w' q => any_of_R k _ a' w' q.2) (h.2 i hi)⟩
theorem firstR {i : Nat} {oi : Oper} {v : Value} (hd : noDefer ops) (hi : ops[i]? = some oi) (hsel : ∀ (j : Nat) (o : Oper) cs b, ops[j]? = some o → o.op ≠ .select cs b)
 (hQ : ∀ c a w, Q (.panic c) (a.put oi.dst v) w → Q (.panic c) a w) :
 ∀ (k : Nat) (ls : Array Bool) (a : Act) (w : World),
   (∀ j oj, ops[j]? = some oj → j ≠ i → ls.getD j true = false → (∀ e ∈ oj.after, Region.binds md e = true → e.on ≠ i) → oi.apart ops oj = true) →
   i ∈ Region.ready md ops ls → YieldsR P ops C oi v a → C w →
   anyR F n P md ops Q C k (ls.setIfInBounds i true) (a.put oi.dst v) w → anyR F n P md ops Q C (k + 1) ls a w := by
 intro k
 induction k with
 | zero =>
   intro ls a w _ hr hy hC H; refine ⟨fun h => (by rw [h] at hr; cases hr), fun j hj => ?_⟩; by_cases hji : j = i
   · subst hji; exact hy.one hi hd hC ⟨hC, H⟩
   · have h2 := ready_mono hj hji; rw [H.1] at h2; cases h2
 | succ k ih =>
   intro ls a w hfree hr hy hC H; refine ⟨fun h => (by rw [h] at hr; cases hr), fun j hj => ?_⟩; by_cases hji : j = i
   · subst hji; exact hy.one hi hd hC ⟨hC, H⟩
   · have h1 := H.2 j (ready_mono hj hji); obtain ⟨hjun, oj, hoj, hall⟩ := mem_ready.1 hj; have hun := (mem_ready.1 hr).1; have hno : ∀ e ∈ oj.after, Region.binds md e = true → e.on ≠ i := fun e he hb heq => by
      have h3 := hall e he hb; rw [heq] at h3; have h4 : ls.getD i true = ls.getD i false := by
       by_cases hb : i < ls.size
       · simp [hb]
       · rw [Array.getD_eq_getD_getElem?, Array.getElem?_eq_none (Nat.le_of_not_lt hb)] at h3; cases h3
      rw [h4, h3] at hun; cases hun
     have h2 := wpOpIn_putR hd hoj (hfree j oj hoj hji hjun hno) (fun cs b => hsel i oi cs b hi) (fun cs b => hsel j oj cs b hoj) hQ hy h1; refine wpOpIn_mono (fun a' w' h3 => ⟨h3.2.1, ih (ls.setIfInBounds j true) a' w' (fun k ok hk hki hku hkn => hfree k ok hk hki ?_ hkn) (ready_mono hr (Ne.symm hji)) h3.1 h3.2.1 ?_⟩) h2
     · by_cases hjk : j = k
       · subst hjk; exact hjun
       · rw [getD_set_ne true hjk] at hku; exact hku
     · rw [Array.setIfInBounds_comm _ _ hji]; exact h3.2.2
theorem region_R {id : Nat} {a : Act} {w : World} (C : World → Prop) (hm : P.follows .mixedOrders = true) (hC : C w.drew) (h : C w.drew → anyR F n P .any ops Q C ops.size (Array.replicate ops.size false) a w.drew) : (Code.region id ops true).wpIn F n P Q a w :=
 wpIn_region_any hm (any_of_R _ _ _ _ (h hC))
theorem take_R {k : Nat} {ls : Array Bool} {a a' : Act} {w : World} {v : Value} (i : Nat) (d : Option Tmp)
 (h : anyR F n P md ops Q C k (ls.setIfInBounds i true) a' w)
 (hy : ∀ o, ops[i]? = some o → ∀ w, C w → (execOp a.eval o).run P w = .ok (.value v) w) (hab : ∀ o, ops[i]? = some o → ∀ w, o.about P w a.eval = none) (ha : a.put d v = a')
 (hi : (ops[i]?).map (·.dst) = some d := by kernel_rfl) (hs : Region.noSelect ops = true := by kernel_rfl) (hf : Region.free md ops ls i = true := by kernel_rfl) (hr : (Region.ready md ops ls).contains i = true := by kernel_rfl)
 (hw : (ops[i]?).map (fun o => Region.wanted o (yielded ops a.tmps)) = some true := by kernel_rfl)
 (hQ : ∀ c a w, Q (.panic c) (a.put d v) w → Q (.panic c) a w := by (exact fun _ _ _ h => h)) (hC : C w := by assumption) (hdB : noDeferB ops = true := by kernel_rfl) : anyR F n P md ops Q C (k + 1) ls a w := by
 subst ha; cases ho : ops[i]? with
 | none => rw [ho] at hi; cases hi
 | some o =>
   rw [ho] at hi hw; obtain rfl := Option.some.inj hi; exact firstR (noDefer_of hdB) ho (Region.noSelect_spec hs) hQ k ls a w (Region.free_spec ho hf) (by simpa using hr) ⟨Or.inl ⟨Option.some.inj hw, hy o ho⟩, hab o ho⟩ hC h
theorem ready_R {k : Nat} {ls : Array Bool} {a : Act} {w : World} (i : Nat)
 (h : ∀ o, ops[i]? = some o → ∀ K' : Act → World → Prop, Shut (∀ a w, C w → (C w → anyR F n P md ops Q C k (ls.setIfInBounds i true) a w) → K' a w) → Oper.wpIn F n P o a w K' Q)
 (hr : Region.ready md ops ls = [i] := by kernel_rfl) (hw : (ops[i]?).map (fun o => Region.wanted o (yielded ops a.tmps)) = some true := by kernel_rfl) : anyR F n P md ops Q C (k + 1) ls a w := by
 refine ⟨fun h0 => (by rw [hr] at h0; cases h0), fun j hj => ?_⟩; rw [hr] at hj; obtain rfl := List.mem_singleton.1 hj; cases ho : ops[j]? with
 | none => rw [ho] at hw; cases hw
 | some o =>
   rw [ho] at hw; refine wpOpIn_step ho (fun K' hK => ?_); rw [if_pos (Option.some.inj hw)]; exact h o ho K' (fun a w hC hA => hK a w ⟨hC, hA hC⟩)
theorem done_R {ls : Array Bool} {a : Act} {w : World} (hr : Region.ready md ops ls = []) (h : Q .normal a w) : ∀ k, anyR F n P md ops Q C k ls a w
 | 0 => ⟨hr, h⟩
 | _ + 1 => ⟨fun _ => h, by rw [hr]; simp⟩
end
end Go.Proofs.YtblbhhijddcbeaaGreatDoor
end
