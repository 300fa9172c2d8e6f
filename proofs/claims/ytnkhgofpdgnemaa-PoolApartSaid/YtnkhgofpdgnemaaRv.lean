/- Regions that draw their order, by one relation that is the same for all: what each operation's value is, and a word on the world; the frame stays a letter. -/
import Derived.Test.YtnkhgofpdgnemaaReg
namespace Go.Proofs.Ytnkhgofpdgnemaa
/-- the frame in which each operation's slot holds its value -/
def putL (a : Act) : List (Option Tmp) → (Nat → Value) → Nat → Act
  | [], _, _ => a
  | s :: l, vals, k => putL (a.put s (vals k)) l vals (k + 1)
def tmpsOf (l : List (Option Tmp)) : List Tmp := l.filterMap id
theorem put_some (a : Act) (t : Tmp) (v : Value) : (a.put (some t) v).tmps = a.tmps.setIfInBounds t v := rfl
theorem putL_defers (l : List (Option Tmp)) (vals : Nat → Value) : ∀ (a : Act) (k : Nat), (putL a l vals k).defers = a.defers := by
  induction l with
  | nil => intro a k; rfl
  | cons s l ih =>
    intro a k
    show (putL (a.put s (vals k)) l vals (k + 1)).defers = _
    rw [ih]
    cases s <;> rfl
theorem putL_size (l : List (Option Tmp)) (vals : Nat → Value) : ∀ (a : Act) (k : Nat), (putL a l vals k).tmps.size = a.tmps.size := by
  induction l with
  | nil => intro a k; rfl
  | cons s l ih =>
    intro a k
    show (putL (a.put s (vals k)) l vals (k + 1)).tmps.size = _
    rw [ih]
    cases s with
    | none => rfl
    | some t => rw [put_some, Array.size_setIfInBounds]
theorem putL_out (t : Tmp) (l : List (Option Tmp)) (vals : Nat → Value) : ∀ (a : Act) (k : Nat), some t ∉ l → (putL a l vals k).tmps[t]? = a.tmps[t]? := by
  induction l with
  | nil => intro a k _; rfl
  | cons s l ih =>
    intro a k h
    show (putL (a.put s (vals k)) l vals (k + 1)).tmps[t]? = _
    rw [ih _ _ (fun h2 => h (List.mem_cons_of_mem _ h2))]
    cases s with
    | none => rfl
    | some u =>
      have hne : u ≠ t := fun e => h (by rw [e]; exact List.mem_cons_self)
      rw [put_some, Array.getElem?_setIfInBounds_ne hne]
theorem putL_in (t : Tmp) : ∀ (l : List (Option Tmp)) (vals : Nat → Value) (a : Act) (k j : Nat), (tmpsOf l).Nodup → l[j]? = some (some t) → t < a.tmps.size → (putL a l vals k).tmps[t]? = some (vals (k + j))
  | [], _, _, _, _, _, h, _ => by simp at h
  | s :: l, vals, a, k, 0, hn, h, ht => by
    obtain rfl : s = some t := by simpa using h
    show (putL (a.put (some t) (vals k)) l vals (k + 1)).tmps[t]? = _
    have hn' : t ∉ tmpsOf l := by
      have : (t :: tmpsOf l).Nodup := hn
      exact (List.nodup_cons.1 this).1
    rw [putL_out t l vals _ _ (fun h2 => hn' (List.mem_filterMap.2 ⟨_, h2, rfl⟩)), put_some, Array.getElem?_setIfInBounds_self_of_lt ht]; rfl
  | s :: l, vals, a, k, j + 1, hn, h, ht => by
    show (putL (a.put s (vals k)) l vals (k + 1)).tmps[t]? = _
    have hn' : (tmpsOf l).Nodup := by
      cases s with
      | none => exact hn
      | some u => exact (List.nodup_cons.1 (show (u :: tmpsOf l).Nodup from hn)).2
    have := putL_in t l vals (a.put s (vals k)) (k + 1) j hn' (by simpa using h) (by cases s with
      | none => exact ht
      | some u => rw [put_some, Array.size_setIfInBounds]; exact ht)
    rw [this, show k + 1 + j = k + (j + 1) by omega]
theorem act_ext {a b : Act} (h1 : a.tmps.size = b.tmps.size) (h2 : ∀ t : Nat, a.tmps[t]? = b.tmps[t]?) (h3 : a.defers = b.defers) : a = b := by
  cases a; cases b
  simp only at h1 h2 h3
  subst h3
  congr 1
  exact Array.ext_getElem? h2
theorem mem_tmps {l : List (Option Tmp)} {t : Tmp} : some t ∈ l ↔ ∃ j : Nat, l[j]? = some (some t) := List.mem_iff_getElem?
theorem nodup_at : ∀ {l : List (Option Tmp)} {t : Tmp} {i j : Nat}, (tmpsOf l).Nodup → l[i]? = some (some t) → l[j]? = some (some t) → i = j
  | [], _, _, _, _, h, _ => by simp at h
  | s :: l, t, 0, 0, _, _, _ => rfl
  | s :: l, t, 0, j + 1, hn, h1, h2 => by
    obtain rfl : s = some t := by simpa using h1
    exact absurd (show t ∈ tmpsOf l from List.mem_filterMap.2 ⟨some t, List.mem_of_getElem? (show l[j]? = some (some t) by simpa using h2), rfl⟩) (List.nodup_cons.1 (show (t :: tmpsOf l).Nodup from hn)).1
  | s :: l, t, i + 1, 0, hn, h1, h2 => by
    obtain rfl : s = some t := by simpa using h2
    exact absurd (show t ∈ tmpsOf l from List.mem_filterMap.2 ⟨some t, List.mem_of_getElem? (show l[i]? = some (some t) by simpa using h1), rfl⟩) (List.nodup_cons.1 (show (t :: tmpsOf l).Nodup from hn)).1
  | s :: l, t, i + 1, j + 1, hn, h1, h2 => by
    have hn' : (tmpsOf l).Nodup := by
      cases s with
      | none => exact hn
      | some u => exact (List.nodup_cons.1 (show (u :: tmpsOf l).Nodup from hn)).2
    have := nodup_at hn' (show l[i]? = some (some t) by simpa using h1) (show l[j]? = some (some t) by simpa using h2)
    omega
/-- one value more -/
theorem putL_put {a : Act} {l : List (Option Tmp)} {vals : Nat → Value} {j : Nat} {s : Option Tmp} (hn : (tmpsOf l).Nodup) (hj : l[j]? = some s) (v : Value) : (putL a l vals 0).put s v = putL a l (fun i => if i = j then v else vals i) 0 := by
  have hsz : ∀ b : Act, ((b.put s v).tmps.size = b.tmps.size) := fun b => by cases s with
    | none => rfl
    | some t => rw [put_some, Array.size_setIfInBounds]
  refine act_ext (by rw [hsz, putL_size, putL_size]) (fun t => ?_) (by
    rw [putL_defers]
    cases s with
    | none => exact putL_defers _ _ _ _
    | some t => exact putL_defers _ _ _ _)
  by_cases hm : some t ∈ l
  · obtain ⟨i, hi⟩ := mem_tmps.1 hm
    by_cases ht : t < a.tmps.size
    · rw [putL_in t l _ a 0 i hn hi ht]
      simp only [Nat.zero_add]
      by_cases e : s = some t
      · subst e
        have := nodup_at hn hi hj
        rw [if_pos this, put_some, Array.getElem?_setIfInBounds_self_of_lt (by rw [putL_size]; exact ht)]
      · have hne : i ≠ j := fun h => e (by rw [h, hj] at hi; exact Option.some.inj hi)
        rw [if_neg hne]
        have h0 := putL_in t l vals a 0 i hn hi ht
        rw [Nat.zero_add] at h0
        cases s with
        | none => exact h0
        | some u => rw [put_some, Array.getElem?_setIfInBounds_ne (fun h => e (by rw [h]))]; exact h0
    · rw [Array.getElem?_eq_none_iff.2 (by rw [hsz, putL_size]; omega), Array.getElem?_eq_none_iff.2 (by rw [putL_size]; omega)]
  · rw [putL_out t l _ a 0 hm]
    cases s with
    | none => exact putL_out t l vals a 0 hm
    | some u =>
      have hne : u ≠ t := fun h => hm (by rw [← h]; exact List.mem_of_getElem? hj)
      rw [put_some, Array.getElem?_setIfInBounds_ne hne]; exact putL_out t l vals a 0 hm
/-- what the slots hold at first -/
def atFirst (a : Act) (l : List (Option Tmp)) (j : Nat) : Value := match l[j]? with
  | some (some t) => a.tmps.getD t undef
  | _ => undef
theorem putL_first {a : Act} {l : List (Option Tmp)} (hn : (tmpsOf l).Nodup) : putL a l (atFirst a l) 0 = a := by
  refine act_ext (putL_size _ _ _ _) (fun t => ?_) (putL_defers _ _ _ _)
  by_cases hm : some t ∈ l
  · obtain ⟨i, hi⟩ := mem_tmps.1 hm
    by_cases ht : t < a.tmps.size
    · rw [putL_in t l _ a 0 i hn hi ht, Nat.zero_add, atFirst, hi]
      simp [ht]
    · rw [Array.getElem?_eq_none_iff.2 (by rw [putL_size]; omega), Array.getElem?_eq_none_iff.2 (by omega)]
  · exact putL_out t l _ a 0 hm

section
variable {P : Program} {ops : Array Oper} {Q : Exit → Act → World → Prop}
/-- the relation: V says what is known of an operation's value, B of the world -/
def InvV (l : List (Option Tmp)) (B : World → Prop) (V : Nat → Value → World → Prop) (a0 : Act) (_ : World) (listed : Array Bool) (a : Act) (w : World) : Prop :=
  ∃ vals, a = putL a0 l vals 0 ∧ B w ∧ ∀ k, k < l.length → Up listed k → V k (vals k) w
/-- what is known when an operation comes up: its own frame 'a1', the values that it waits for -/
structure Came (l : List (Option Tmp)) (B : World → Prop) (V : Nat → Value → World → Prop) (a0 : Act) (ws : List Nat) (a1 : Act) (vals : Nat → Value) (w1 : World) : Prop where
  val : ∀ j t, l[j]? = some (some t) → t < a0.tmps.size → a1.eval (.tmp t) = vals j
  old : ∀ t, l.contains (some t) = false → a1.eval (.tmp t) = a0.eval (.tmp t)
  base : B w1
  dep : ∀ j, j ∈ ws → V j (vals j) w1
theorem InvV.cons {l : List (Option Tmp)} {B : World → Prop} {V : Nat → Value → World → Prop} {a0 : Act} {w0 : World} {k : Nat} {o : Oper} {rest : List Oper} {ws : List Nat}
    (hw : Waits .any o = ws) (hl : l[k]? = some o.dst) (hn : decide (tmpsOf l).Nodup = true) (hd : ws.all (fun j => decide (j < l.length)) = true)
    (h : ∀ a1 vals w1, Came l B V a0 ws a1 vals w1 → ∀ K : Act → World → Prop, (∀ v w2, V k v w2 → B w2 → (∀ j u, j ≠ k → V j u w1 → V j u w2) → K (a1.put o.dst v) w2) →
      if Region.wanted o (yielded ops a1.tmps) = true then Oper.wp P o a1 w1 K Q else K (a1.put o.dst undef) w1)
    (hs : StepsL P .any ops Q (InvV l B V a0 w0) (k + 1) rest) : StepsL P .any ops Q (InvV l B V a0 w0) k (o :: rest) := by
  have hn := of_decide_eq_true hn
  refine StepsL.cons hw (fun listed a1 w1 hI hu hu2 K hK => ?_) hs
  obtain ⟨vals, rfl, hb, hv⟩ := hI
  refine h _ vals w1 ⟨fun j t hj ht => ?_, fun t ht => ?_, hb, fun j hj => hv j (of_decide_eq_true (List.all_eq_true.1 hd j hj)) (hu2 j hj)⟩ K (fun v w2 h1 h2 h3 => ?_)
  · show (putL a0 l vals 0).tmps.getD t undef = _
    rw [Array.getD_eq_getD_getElem?, putL_in t l vals a0 0 j hn hj ht, Nat.zero_add]; rfl
  · show (putL a0 l vals 0).tmps.getD t undef = a0.tmps.getD t undef
    rw [Array.getD_eq_getD_getElem?, Array.getD_eq_getD_getElem?, putL_out t l vals a0 0 (fun hm => by
      have : l.contains (some t) = true := List.contains_iff_mem.2 hm
      rw [this] at ht; cases ht)]
  · refine hK.out _ _ ⟨fun i => if i = k then v else vals i, putL_put hn hl v, h2, fun j hjl hj => ?_⟩
    show V j (if j = k then v else vals j) w2
    by_cases e : j = k
    · subst e; rw [if_pos rfl]; exact h1
    · rw [if_neg e]; exact h3 j _ e (hv j hjl (up_back hj e))
/-- THE LAW. 'hend': all have come up; the frame is written out again by 'putL' -/
theorem wp_vals {id : Nat} {ol : List Oper} {a : Act} {w : World} (l : List (Option Tmp)) (B : World → Prop) (V : Nat → Value → World → Prop) (hm : P.follows .mixedOrders = true) (hb : backB .any ol.toArray = true) (hn : decide (tmpsOf l).Nodup = true) (hlen : l.length = ol.length)
    (h0 : B w.drew) (hs : StepsL P .any ol.toArray Q (InvV l B V a w) 0 ol)
    (hend : ∀ vals w', B w' → (∀ k, k < l.length → V k (vals k) w') → Q .normal (putL a l vals 0) w') : (Code.region id ol.toArray true).wp P Q a w := by
  refine wp_region_inv (InvV l B V) hm hb (fun listed hl => ⟨atFirst a l, (putL_first (of_decide_eq_true hn)).symm, h0, fun k hkl hk => ?_⟩) hs (fun listed a' w' hI hu => ?_)
  · exact absurd hk (hl k (by omega))
  · obtain ⟨vals, rfl, h1, h2⟩ := hI
    exact hend vals w' h1 (fun k hk => h2 k hk (hu k))
/-- an operation that only makes a value -/
theorem wp_run {o : Oper} {a : Act} {w w' : World} {K : Act → World → Prop} {v : Value} (h : (execOp a.eval o).run P w = .ok (.value v) w') (hK : K (a.put o.dst v) w') : Oper.wp P o a w K Q := by
  unfold Oper.wp; rw [h]; exact hK
theorem step_any {o : Oper} {a : Act} {w : World} {K : Act → World → Prop} {E : Prop} (hg : o.guard = none) (h : Oper.wp P o a w K Q) : if Region.wanted o (yielded ops a.tmps) = true then Oper.wp P o a w K Q else E := by
  rw [if_pos (by simp [Region.wanted, hg])]; exact h
/-- the values are known, and number kS makes F true -/
def VL (vl : List Value) (kS : Nat) (F : World → Prop) (k : Nat) (v : Value) (w : World) : Prop := if k = kS then F w else v = vl.getD k undef
section
variable {l : List (Option Tmp)} {B : World → Prop} {vl : List Value} {kS : Nat} {F : World → Prop} {a0 a1 : Act} {ws : List Nat} {vals : Nat → Value} {w1 w2 : World} {k : Nat} {K : Act → World → Prop} {dst : Option Tmp}
theorem vl_is {v : Value} (h : VL vl kS F k v w1) (hne : (k == kS) = false) : v = vl.getD k undef := by
  have : k ≠ kS := by simpa using hne
  rw [VL, if_neg this] at h; exact h
theorem got (C : Came l B (VL vl kS F) a0 ws a1 vals w1) (j t : Nat) (hj : l[j]? = some (some t)) (hs : Nat.blt t a0.tmps.size = true) (hm : ws.contains j = true) (hne : (j == kS) = false) : a1.eval (.tmp t) = vl.getD j undef :=
  (C.val j t hj (by simpa [Nat.blt_eq] using hs)).trans (vl_is (C.dep j (List.contains_iff_mem.1 hm)) hne)
theorem eval_tmp (a : Act) (t : Tmp) : a.tmps[t]?.getD undef = a.eval (.tmp t) := by show _ = a.tmps.getD t undef; rw [Array.getD_eq_getD_getElem?]
theorem gotT (C : Came l B (VL vl kS F) a0 ws a1 vals w1) (j t : Nat) (hj : l[j]? = some (some t)) (hs : Nat.blt t a0.tmps.size = true) (hm : ws.contains j = true) (hne : (j == kS) = false) : a1.tmps[t]?.getD undef = vl.getD j undef := (eval_tmp a1 t).trans (got C j t hj hs hm hne)
theorem vl_put (hK : ∀ v w2, VL vl kS F k v w2 → B w2 → (∀ j u, j ≠ k → VL vl kS F j u w1 → VL vl kS F j u w2) → K (a1.put dst v) w2) {v : Value} (hv : v = vl.getD k undef) (hk : (k == kS) = false) (hB : B w2) (hF : F w1 → F w2) : K (a1.put dst v) w2 := by
  have hne : k ≠ kS := by simpa using hk
  refine hK v w2 (by rw [VL, if_neg hne]; exact hv) hB (fun j u _ h => ?_)
  unfold VL at h ⊢
  by_cases e : j = kS
  · rw [if_pos e] at h ⊢; exact hF h
  · rw [if_neg e] at h ⊢; exact h
theorem vl_same (hK : ∀ v w2, VL vl kS F k v w2 → B w2 → (∀ j u, j ≠ k → VL vl kS F j u w1 → VL vl kS F j u w2) → K (a1.put dst v) w2) (C : Came l B (VL vl kS F) a0 ws a1 vals w1) {v : Value} (hv : v = vl.getD k undef) (hk : (k == kS) = false) : K (a1.put dst v) w1 := vl_put hK hv hk C.base id
theorem vl_store (hK : ∀ v w2, VL vl kS F kS v w2 → B w2 → (∀ j u, j ≠ kS → VL vl kS F j u w1 → VL vl kS F j u w2) → K (a1.put dst v) w2) {v : Value} (hF : F w2) (hB : B w2) : K (a1.put dst v) w2 :=
  hK v w2 (by rw [VL, if_pos rfl]; exact hF) hB (fun j u e h => by unfold VL at h ⊢; rw [if_neg e] at h ⊢; exact h)
end
end
end Go.Proofs.Ytnkhgofpdgnemaa
