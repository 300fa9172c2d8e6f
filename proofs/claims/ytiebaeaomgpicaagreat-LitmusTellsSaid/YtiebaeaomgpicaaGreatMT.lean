/- MathSx, MathSy, MathSz, MathPa, MathPb, MathTa, put together. -/
import Derived.Test.YtiebaeaomgpicaaGreatMS
/- A test's outcomes with a greater depth. Nothing of the program is imported. -/
namespace Go.Proofs.YtiebaeaomgpicaaGreat

/-- the same stage, one deeper -/
def deepS (s : St) : St := ⟨s.ws, s.ts, s.D + 1, s.bs, s.l, s.n⟩
theorem ended_deep (s : St) (l : Nat) : endedB (deepS s) l = endedB s l := rfl
section
variable {W D : Int} {ts : List (List Mv)} {s t : St}
theorem set_back {bs : List (List (Int × Int))} {j : Nat} (hj : j < bs.length) (p : List (Int × Int)) (h : bs.getD j [] = []) : (bs.set j p).set j [] = bs := by
  rw [List.set_set]
  apply List.ext_getElem?
  intro i
  rw [List.getElem?_set]
  by_cases e : j = i
  · subst e
    rw [if_pos rfl, if_pos hj]
    rw [List.getD_eq_getElem?_getD, List.getElem?_eq_getElem hj] at h
    rw [List.getElem?_eq_getElem hj]
    exact congrArg some h.symm
  · rw [if_neg e]
theorem getD_setB {bs : List (List (Int × Int))} {j : Nat} (hj : j < bs.length) (p : List (Int × Int)) : (bs.set j p).getD j [] = p := by
  rw [List.getD_eq_getElem?_getD, List.getElem?_set, if_pos rfl, if_pos hj]; rfl
/-- each step is a step, or two, one deeper -/
theorem deep_step (hm' : mayL W (D + 1) ts = true) (K : Ok W D ts s) (R : Reach W (D + 1) ts (deepS s)) (hf : endedB s ts.length = false) {j : Nat} (hj : j < ts.length) (h : Stp s j t) : Reach W (D + 1) ts (deepS t) := by
  have one : ∀ {u : St}, Stp (deepS s) j u → Reach W (D + 1) ts u := fun {u} hu => .step R hf ((mem_next hm' (reach_ok hm' R) u).2 ⟨j, hj, hu⟩)
  cases h with
  | flush h => exact one (.flush (s := deepS s) h)
  | @put0 x v r h hD =>
    have hb : s.bs.getD j [] = [] := by
      have := (K.th j hj).len
      rw [← K.dd, hD] at this
      exact List.eq_nil_of_length_eq_zero (by omega)
    have hjb : j < s.bs.length := by rw [K.bl]; exact hj
    have r1 := one (.put (s := deepS s) h (by show s.D + 1 ≠ 0; omega) (by show ((s.bs.getD j []).length : Int) ≠ s.D + 1; rw [hb, hD]; decide))
    have hb1 : (s.bs.set j (s.bs.getD j [] ++ [(x, v)])).getD j [] = [(x, v)] := by rw [getD_setB hjb, hb]; rfl
    have hf1 : endedB (⟨s.ws, s.ts, s.D + 1, s.bs.set j (s.bs.getD j [] ++ [(x, v)]), upd s.l j r, s.n⟩ : St) ts.length = false := endedB_no hj (by
      have h0 : (((⟨s.ws, s.ts, s.D + 1, s.bs.set j (s.bs.getD j [] ++ [(x, v)]), upd s.l j r, s.n⟩ : St).bs.getD j []).length) = 1 := by show ((s.bs.set j (s.bs.getD j [] ++ [(x, v)])).getD j []).length = 1; rw [hb1]; rfl
      rw [doneB, h0]; simp)
    have r2 : Reach W (D + 1) ts ⟨s.ws.set x.toNat v, s.ts, s.D + 1, (s.bs.set j (s.bs.getD j [] ++ [(x, v)])).set j [], upd s.l j r, s.n⟩ :=
      .step r1 hf1 ((mem_next hm' (reach_ok hm' r1) _).2 ⟨j, hj, .flush (p := (x, v)) (r := []) hb1⟩)
    rw [set_back hjb _ hb] at r2
    exact r2
  | put h hD hl =>
    refine one (.put (s := deepS s) h (by show s.D + 1 ≠ 0; have := (K.th j hj).len; rw [← K.dd] at this; omega) ?_)
    show ((s.bs.getD j []).length : Int) ≠ s.D + 1
    have := (K.th j hj).len
    rw [← K.dd] at this
    omega
  | load h => exact one (.load (s := deepS s) h)
  | fence h hb => exact one (.fence (s := deepS s) h hb)
  | xchg h hb => exact one (.xchg (s := deepS s) h hb)
theorem deep_reach (hm : mayL W D ts = true) (hm' : mayL W (D + 1) ts = true) (h : Reach W D ts s) : Reach W (D + 1) ts (deepS s) := by
  induction h with
  | refl => exact .refl
  | step h hf ht ih =>
    obtain ⟨j, hj, hs⟩ := (mem_next hm (reach_ok hm h) _).1 ht
    exact deep_step hm' (reach_ok hm h) ih hf hj hs
/-- each outcome stays one with a greater depth -/
theorem rows_grow (hm : mayL W D ts = true) (hm' : mayL W (D + 1) ts = true) {o : List Int} (h : o ∈ rowsL W D ts) : o ∈ rowsL W (D + 1) ts := by
  obtain ⟨s, hs, he, ho⟩ := ((rows_once hm).2 o).1 h
  exact ((rows_once hm').2 o).2 ⟨deepS s, deep_reach hm hm' hs, he, ho⟩
end
end Go.Proofs.YtiebaeaomgpicaaGreat
/- A test's outcomes with its two threads in the other order. Nothing of the program is imported. -/
namespace Go.Proofs.YtiebaeaomgpicaaGreat

def tw {α : Type} (f : Nat → α) : Nat → α := fun i => if i = 0 then f 1 else if i = 1 then f 0 else f i
/-- the same stage, its two threads in the other order -/
def turnS (s : St) : St := ⟨s.ws, s.ts, s.D, [s.bs.getD 1 [], s.bs.getD 0 []], tw s.l, tw s.n⟩
theorem tw_upd0 {α : Type} (f : Nat → α) (x : α) : tw (upd f 0 x) = upd (tw f) 1 x := by
  funext i
  simp only [tw, upd]
  by_cases h0 : i = 0
  · subst h0; simp
  · by_cases h1 : i = 1
    · subst h1; simp
    · simp [h0, h1]
theorem tw_upd1 {α : Type} (f : Nat → α) (x : α) : tw (upd f 1 x) = upd (tw f) 0 x := by
  funext i
  simp only [tw, upd]
  by_cases h0 : i = 0
  · subst h0; simp
  · by_cases h1 : i = 1
    · subst h1; simp
    · simp [h0, h1]
section
variable {W D : Int} {a b : List Mv} {s t : St}
theorem may_turn (h : mayL W D [a, b] = true) : mayL W D [b, a] = true := by
  obtain ⟨h1, h2, h3, h4⟩ := mayL_parts h
  refine mayL_mk h1 h2 ?_ fun t ht => h4 t (by simp at ht ⊢; exact ht.symm)
  simp only [total, List.map_cons, List.map_nil, List.sum_cons, List.sum_nil] at h3 ⊢
  omega
theorem ended_turn (s : St) : endedB (turnS s) 2 = endedB s 2 := by
  have e : ∀ u : St, endedB u 2 = (doneB u 0 && doneB u 1) := fun u => by simp [endedB, List.range_succ]
  rw [e, e, Bool.and_comm]
  rfl
theorem two_set {bs : List (List (Int × Int))} (h : bs.length = 2) (r : List (Int × Int)) :
    (bs.set 0 r).getD 0 [] = r ∧ (bs.set 0 r).getD 1 [] = bs.getD 1 [] ∧ (bs.set 1 r).getD 0 [] = bs.getD 0 [] ∧ (bs.set 1 r).getD 1 [] = r := by
  match bs, h with
  | [x, y], _ => exact ⟨rfl, rfl, rfl, rfl⟩
theorem turn_step (h2 : s.bs.length = 2) {j : Nat} (hj : j < 2) (h : Stp s j t) : Stp (turnS s) (1 - j) (turnS t) := by
  have e := two_set h2
  rcases (show j = 0 ∨ j = 1 by omega) with rfl | rfl
  · show Stp (turnS s) 1 (turnS t)
    cases h with
    | @flush p r h =>
      have g := Stp.flush (s := turnS s) (j := 1) (p := p) (r := r) h
      have q : turnS ⟨s.ws.set p.1.toNat p.2, s.ts, s.D, s.bs.set 0 r, s.l, s.n⟩ = ⟨(turnS s).ws.set p.1.toNat p.2, (turnS s).ts, (turnS s).D, (turnS s).bs.set 1 r, (turnS s).l, (turnS s).n⟩ := by
        simp only [turnS, (e r).1, (e r).2.1, List.set_cons_succ, List.set_cons_zero]
      rw [q]; exact g
    | @put0 x v r h hD =>
      have g := Stp.put0 (s := turnS s) (j := 1) (x := x) (v := v) (r := r) h hD
      have q : turnS ⟨s.ws.set x.toNat v, s.ts, s.D, s.bs, upd s.l 0 r, s.n⟩ = ⟨(turnS s).ws.set x.toNat v, (turnS s).ts, (turnS s).D, (turnS s).bs, upd (turnS s).l 1 r, (turnS s).n⟩ := by
        simp only [turnS, tw_upd0]
      rw [q]; exact g
    | @put x v r h hD hl =>
      have g := Stp.put (s := turnS s) (j := 1) (x := x) (v := v) (r := r) h hD hl
      have q : turnS ⟨s.ws, s.ts, s.D, s.bs.set 0 (s.bs.getD 0 [] ++ [(x, v)]), upd s.l 0 r, s.n⟩ = ⟨(turnS s).ws, (turnS s).ts, (turnS s).D, (turnS s).bs.set 1 ((turnS s).bs.getD 1 [] ++ [(x, v)]), upd (turnS s).l 1 r, (turnS s).n⟩ := by
        simp only [turnS, (e _).1, (e _).2.1, tw_upd0, List.set_cons_succ, List.set_cons_zero]; rfl
      rw [q]; exact g
    | @load x v r h =>
      have g := Stp.load (s := turnS s) (j := 1) (x := x) (v := v) (r := r) h
      have q : turnS ⟨s.ws, s.ts, s.D, s.bs, upd s.l 0 r, upd s.n 0 (s.n 0 ++ [(newest (s.bs.getD 0 []) x).getD (s.ws.getD x.toNat 0)])⟩ = ⟨(turnS s).ws, (turnS s).ts, (turnS s).D, (turnS s).bs, upd (turnS s).l 1 r, upd (turnS s).n 1 ((turnS s).n 1 ++ [(newest ((turnS s).bs.getD 1 []) x).getD ((turnS s).ws.getD x.toNat 0)])⟩ := by
        simp only [turnS, tw_upd0]; rfl
      rw [q]; exact g
    | @fence x v r h hb =>
      have g := Stp.fence (s := turnS s) (j := 1) (x := x) (v := v) (r := r) h hb
      have q : turnS ⟨s.ws, s.ts, s.D, s.bs, upd s.l 0 r, s.n⟩ = ⟨(turnS s).ws, (turnS s).ts, (turnS s).D, (turnS s).bs, upd (turnS s).l 1 r, (turnS s).n⟩ := by
        simp only [turnS, tw_upd0]
      rw [q]; exact g
    | @xchg x v r h hb =>
      have g := Stp.xchg (s := turnS s) (j := 1) (x := x) (v := v) (r := r) h hb
      have q : turnS ⟨s.ws.set x.toNat v, s.ts, s.D, s.bs, upd s.l 0 r, upd s.n 0 (s.n 0 ++ [s.ws.getD x.toNat 0])⟩ = ⟨(turnS s).ws.set x.toNat v, (turnS s).ts, (turnS s).D, (turnS s).bs, upd (turnS s).l 1 r, upd (turnS s).n 1 ((turnS s).n 1 ++ [(turnS s).ws.getD x.toNat 0])⟩ := by
        simp only [turnS, tw_upd0]; rfl
      rw [q]; exact g
  · show Stp (turnS s) 0 (turnS t)
    cases h with
    | @flush p r h =>
      have g := Stp.flush (s := turnS s) (j := 0) (p := p) (r := r) h
      have q : turnS ⟨s.ws.set p.1.toNat p.2, s.ts, s.D, s.bs.set 1 r, s.l, s.n⟩ = ⟨(turnS s).ws.set p.1.toNat p.2, (turnS s).ts, (turnS s).D, (turnS s).bs.set 0 r, (turnS s).l, (turnS s).n⟩ := by
        simp only [turnS, (e r).2.2.1, (e r).2.2.2, List.set_cons_zero]
      rw [q]; exact g
    | @put0 x v r h hD =>
      have g := Stp.put0 (s := turnS s) (j := 0) (x := x) (v := v) (r := r) h hD
      have q : turnS ⟨s.ws.set x.toNat v, s.ts, s.D, s.bs, upd s.l 1 r, s.n⟩ = ⟨(turnS s).ws.set x.toNat v, (turnS s).ts, (turnS s).D, (turnS s).bs, upd (turnS s).l 0 r, (turnS s).n⟩ := by
        simp only [turnS, tw_upd1]
      rw [q]; exact g
    | @put x v r h hD hl =>
      have g := Stp.put (s := turnS s) (j := 0) (x := x) (v := v) (r := r) h hD hl
      have q : turnS ⟨s.ws, s.ts, s.D, s.bs.set 1 (s.bs.getD 1 [] ++ [(x, v)]), upd s.l 1 r, s.n⟩ = ⟨(turnS s).ws, (turnS s).ts, (turnS s).D, (turnS s).bs.set 0 ((turnS s).bs.getD 0 [] ++ [(x, v)]), upd (turnS s).l 0 r, (turnS s).n⟩ := by
        simp only [turnS, (e _).2.2.1, (e _).2.2.2, tw_upd1, List.set_cons_zero]; rfl
      rw [q]; exact g
    | @load x v r h =>
      have g := Stp.load (s := turnS s) (j := 0) (x := x) (v := v) (r := r) h
      have q : turnS ⟨s.ws, s.ts, s.D, s.bs, upd s.l 1 r, upd s.n 1 (s.n 1 ++ [(newest (s.bs.getD 1 []) x).getD (s.ws.getD x.toNat 0)])⟩ = ⟨(turnS s).ws, (turnS s).ts, (turnS s).D, (turnS s).bs, upd (turnS s).l 0 r, upd (turnS s).n 0 ((turnS s).n 0 ++ [(newest ((turnS s).bs.getD 0 []) x).getD ((turnS s).ws.getD x.toNat 0)])⟩ := by
        simp only [turnS, tw_upd1]; rfl
      rw [q]; exact g
    | @fence x v r h hb =>
      have g := Stp.fence (s := turnS s) (j := 0) (x := x) (v := v) (r := r) h hb
      have q : turnS ⟨s.ws, s.ts, s.D, s.bs, upd s.l 1 r, s.n⟩ = ⟨(turnS s).ws, (turnS s).ts, (turnS s).D, (turnS s).bs, upd (turnS s).l 0 r, (turnS s).n⟩ := by
        simp only [turnS, tw_upd1]
      rw [q]; exact g
    | @xchg x v r h hb =>
      have g := Stp.xchg (s := turnS s) (j := 0) (x := x) (v := v) (r := r) h hb
      have q : turnS ⟨s.ws.set x.toNat v, s.ts, s.D, s.bs, upd s.l 1 r, upd s.n 1 (s.n 1 ++ [s.ws.getD x.toNat 0])⟩ = ⟨(turnS s).ws.set x.toNat v, (turnS s).ts, (turnS s).D, (turnS s).bs, upd (turnS s).l 0 r, upd (turnS s).n 0 ((turnS s).n 0 ++ [(turnS s).ws.getD x.toNat 0])⟩ := by
        simp only [turnS, tw_upd1]; rfl
      rw [q]; exact g
theorem turn_begin : turnS (beginS W D [a, b]) = beginS W D [b, a] := by
  have e : tw (fun i => [a, b].getD i []) = fun i => [b, a].getD i [] := by
    funext i
    match i with
    | 0 => rfl
    | 1 => rfl
    | i + 2 => rfl
  have e2 : tw (fun _ : Nat => ([] : List Int)) = fun _ => [] := by funext i; simp [tw]
  simp only [turnS, beginS, e, e2]
  rfl
theorem turn_reach (hm : mayL W D [a, b] = true) (h : Reach W D [a, b] s) : Reach W D [b, a] (turnS s) := by
  have hm' := may_turn hm
  induction h with
  | refl => rw [turn_begin]; exact .refl
  | @step s t h hf ht ih =>
    have K := reach_ok hm h
    obtain ⟨j, hj, hs⟩ := (mem_next hm K _).1 ht
    have hj2 : j < 2 := hj
    have g := turn_step K.bl hj2 hs
    exact .step ih (by rw [show [b, a].length = 2 from rfl, ended_turn]; exact hf) ((mem_next hm' (reach_ok hm' ih) _).2 ⟨1 - j, by show 1 - j < 2; omega, g⟩)
/-- what an outcome is made of -/
theorem row_parts (hm : mayL W D [a, b] = true) {o : List Int} (h : o ∈ rowsL W D [a, b]) : ∃ p q r, o = p ++ q ++ r ∧ p.length = notesM a ∧ q.length = notesM b ∧ r.length = W.toNat ∧ q ++ p ++ r ∈ rowsL W D [b, a] := by
  obtain ⟨s, hs, he, ho⟩ := ((rows_once hm).2 o).1 h
  have K := reach_ok hm hs
  have hd : ∀ j, j < 2 → s.l j = [] := fun j hj => by
    have h1 := List.all_eq_true.1 he j (List.mem_range.2 hj)
    simp only [doneB, Bool.and_eq_true, decide_eq_true_eq] at h1
    exact List.eq_nil_of_length_eq_zero h1.1
  have hn : ∀ j, j < 2 → (s.n j).length = notesM ([a, b].getD j []) := fun j hj => by
    obtain ⟨ms, e, _, hn⟩ := (K.th j hj).made
    rw [hd j hj, List.append_nil] at e
    rw [e]; exact hn
  have n2 : s.n 2 = [] := (K.rest 2 (Nat.le_refl _)).2
  refine ⟨s.n 0, s.n 1, s.ws, ?_, hn 0 (by decide), hn 1 (by decide), K.wl, ?_⟩
  · rw [← ho, outS, n2, List.append_nil]
  · refine ((rows_once (may_turn hm)).2 _).2 ⟨turnS s, turn_reach hm hs, ?_, ?_⟩
    · rw [show [b, a].length = 2 from rfl, ended_turn]; exact he
    · show tw s.n 0 ++ tw s.n 1 ++ tw s.n 2 ++ s.ws = _
      rw [show tw s.n 0 = s.n 1 from rfl, show tw s.n 1 = s.n 0 from rfl, show tw s.n 2 = s.n 2 from rfl, n2, List.append_nil]
def swapO (n W : Nat) (o : List Int) : List Int := (o.drop n).take (o.length - W - n) ++ o.take n ++ o.drop (o.length - W)
theorem swapO_parts {p q r : List Int} {n w : Nat} (hp : p.length = n) (hr : r.length = w) : swapO n w (p ++ q ++ r) = q ++ p ++ r := by
  subst hp hr
  have h1 : (p ++ q ++ r).length - r.length = p.length + q.length := by simp only [List.length_append]; omega
  rw [swapO, h1]
  have h2 : (p ++ q ++ r).drop p.length = q ++ r := by rw [List.append_assoc, List.drop_left]
  have h3 : (p ++ q ++ r).take p.length = p := by rw [List.append_assoc, List.take_left]
  have h4 : (p ++ q ++ r).drop (p.length + q.length) = r := by rw [← List.length_append, List.drop_left]
  rw [h2, h3, h4, show p.length + q.length - p.length = q.length by omega, List.take_left]
theorem row_turn (hm : mayL W D [a, b] = true) {o : List Int} (h : o ∈ rowsL W D [a, b]) : notesM a ≤ o.length - W.toNat ∧ W.toNat ≤ o.length ∧ swapO (notesM a) W.toNat o ∈ rowsL W D [b, a] := by
  obtain ⟨p, q, r, rfl, hp, hq, hr, hb⟩ := row_parts hm h
  refine ⟨by simp only [List.length_append]; omega, by simp only [List.length_append]; omega, ?_⟩
  rw [swapO_parts hp hr]; exact hb
/-- as many, in either order -/
theorem rows_turn_len (hm : mayL W D [a, b] = true) : (rowsL W D [a, b]).length = (rowsL W D [b, a]).length := by
  have hm' := may_turn hm
  have hp : ((rowsL W D [a, b]).map (swapO (notesM a) W.toNat)).Perm (rowsL W D [b, a]) := by
    refine (List.perm_ext_iff_of_nodup ?_ (rows_once hm').1).2 fun o => ?_
    · refine List.Pairwise.map _ (fun _ _ h => h) (List.Pairwise.imp_of_mem ?_ (rows_once hm).1)
      intro x y hx hy hne he
      obtain ⟨p, q, r, rfl, hp, hq, hr, _⟩ := row_parts hm hx
      obtain ⟨p', q', r', rfl, hp', hq', hr', _⟩ := row_parts hm hy
      rw [swapO_parts hp hr, swapO_parts hp' hr'] at he
      obtain ⟨e1, e2⟩ := List.append_inj he (by simp only [List.length_append]; omega)
      obtain ⟨e3, e4⟩ := List.append_inj e1 (by omega)
      exact hne (by rw [e2, e3, e4])
    · constructor
      · intro h
        obtain ⟨x, hx, rfl⟩ := List.mem_map.1 h
        exact (row_turn hm hx).2.2
      · intro h
        obtain ⟨p, q, r, rfl, hp, hq, hr, hb⟩ := row_parts hm' h
        exact List.mem_map.2 ⟨q ++ p ++ r, hb, swapO_parts hq hr⟩
  have := hp.length_eq
  rw [List.length_map] at this
  exact this
end
end Go.Proofs.YtiebaeaomgpicaaGreat
/- A test's outcomes where a fence stands behind each store. Nothing of the program is imported. -/
namespace Go.Proofs.YtiebaeaomgpicaaGreat

def fen : List Mv → List Mv
  | [] => []
  | m :: r => if m.1 = 0 then m :: (2, 0, 0) :: fen r else m :: fen r
theorem fen_nil {r : List Mv} (h : fen r = []) : r = [] := by
  cases r with
  | nil => rfl
  | cons m r => rw [fen] at h; split at h <;> cases h
theorem fen_cons {r r' : List Mv} {m : Mv} (h : fen r = m :: r') : ∃ r0, r = m :: r0 ∧ r' = if m.1 = 0 then (2, 0, 0) :: fen r0 else fen r0 := by
  cases r with
  | nil => cases h
  | cons m0 r0 =>
    rw [fen] at h
    split at h
    · rename_i h0
      injection h with h1 h2
      subst h1
      exact ⟨r0, rfl, by rw [if_pos h0]; exact h2.symm⟩
    · rename_i h0
      injection h with h1 h2
      subst h1
      exact ⟨r0, rfl, by rw [if_neg h0]; exact h2.symm⟩
/-- how a thread of a fenced test stands to one of the test at depth 0: as it is; its fence still ahead; its store and its fence -/
def FTh (b : List (Int × Int)) (fl ul : List Mv) : Prop := (b = [] ∧ fl = fen ul) ∨ (b = [] ∧ fl = (2, 0, 0) :: fen ul) ∨ ∃ x v r, b = [(x, v)] ∧ fl = (2, 0, 0) :: fen r ∧ ul = (0, x, v) :: r
structure FRel (l : Nat) (f u : St) : Prop where
  ws : f.ws = u.ws
  n : f.n = u.n
  th : ∀ j, j < l → FTh (f.bs.getD j []) (f.l j) (u.l j)
theorem getD_setA {bs : List (List (Int × Int))} {j i : Nat} (p : List (Int × Int)) (h : i ≠ j) : (bs.set j p).getD i [] = bs.getD i [] := by
  rw [List.getD_eq_getElem?_getD, List.getD_eq_getElem?_getD, List.getElem?_set, if_neg (fun e => h e.symm)]
section
variable {W D : Int} {ts : List (List Mv)} {f f' u : St}
theorem frel_step {l j : Nat} (R : FRel l f u) (hj : j < l) (hb : f.bs.length = l) (hu0 : u.D = 0) (hub : ∀ i, u.bs.getD i [] = []) (h : Stp f j f') : ∃ u', FRel l f' u' ∧ (u' = u ∨ Stp u j u') := by
  have T := R.th j hj
  have hbj : j < f.bs.length := by omega
  -- what the others are is as it was
  have others : ∀ {bs' : List (List (Int × Int))} {fl' ul' : List Mv} {p : List (Int × Int)}, (bs' = f.bs ∧ p = f.bs.getD j [] ∨ bs' = f.bs.set j p) → FTh p fl' ul' → ∀ i, i < l → FTh (bs'.getD i []) (upd f.l j fl' i) (upd u.l j ul' i) := by
    intro bs' fl' ul' p hbs hT i hi
    by_cases e : i = j
    · subst e
      rw [upd_same, upd_same]
      rcases hbs with ⟨rfl, rfl⟩ | rfl
      · exact hT
      · rw [getD_setB hbj]; exact hT
    · rw [upd_other _ e, upd_other _ e]
      rcases hbs with ⟨rfl, rfl⟩ | rfl
      · exact R.th i hi
      · rw [getD_setA _ e]; exact R.th i hi
  have keepu : ∀ {fl' : List Mv} {bs' : List (List (Int × Int))} {p : List (Int × Int)}, (bs' = f.bs ∧ p = f.bs.getD j [] ∨ bs' = f.bs.set j p) → FTh p fl' (u.l j) → ∀ i, i < l → FTh (bs'.getD i []) (upd f.l j fl' i) (u.l i) := by
    intro fl' bs' p hbs hT i hi
    have := others hbs hT i hi
    by_cases e : i = j
    · subst e; rw [upd_same, upd_same] at this; rw [upd_same]; exact this
    · rw [upd_other u.l e] at this; exact this
  -- the same moves, one of them made
  have same : ∀ {m : Mv} {r : List Mv}, f.l j = m :: r → m.1 ≠ 0 → f.bs.getD j [] = [] → (∃ r0, u.l j = m :: r0 ∧ r = fen r0) ∨ (m = (2, 0, 0) ∧ r = fen (u.l j)) := by
    intro m r h h0 hb0
    rcases T with ⟨_, e⟩ | ⟨_, e⟩ | ⟨x, v, r0, e, _⟩
    · rw [h] at e
      obtain ⟨r0, e1, e2⟩ := fen_cons e.symm
      rw [if_neg h0] at e2
      exact .inl ⟨r0, e1, e2⟩
    · rw [h] at e
      injection e with e1 e2
      exact .inr ⟨e1, e2⟩
    · rw [hb0] at e; cases e
  have store : ∀ {x v : Int} {r : List Mv}, f.l j = (0, x, v) :: r → ∃ r0, f.bs.getD j [] = [] ∧ u.l j = (0, x, v) :: r0 ∧ r = (2, 0, 0) :: fen r0 := by
    intro x v r h
    rcases T with ⟨e0, e⟩ | ⟨_, e⟩ | ⟨x, v, r0, _, e, _⟩
    · rw [h] at e
      obtain ⟨r0, e1, e2⟩ := fen_cons e.symm
      exact ⟨r0, e0, e1, by rw [e2, if_pos rfl]⟩
    · rw [h] at e; injection e with e1; injection e1 with e1; cases e1
    · rw [h] at e; injection e with e1; injection e1 with e1; cases e1
  cases h with
  | @flush p r h =>
    rcases T with ⟨e, _⟩ | ⟨e, _⟩ | ⟨x, v, r0, e, el, eu⟩
    · rw [h] at e; cases e
    · rw [h] at e; cases e
    · rw [h] at e
      injection e with e1 e2
      subst e1 e2
      refine ⟨⟨u.ws.set x.toNat v, u.ts, u.D, u.bs, upd u.l j r0, u.n⟩, ⟨by show f.ws.set _ _ = _; rw [R.ws], R.n, ?_⟩, .inr (.put0 eu hu0)⟩
      intro i hi
      have := others (bs' := f.bs.set j []) (fl' := f.l j) (ul' := r0) (.inr rfl) (.inr (.inl ⟨rfl, el⟩)) i hi
      by_cases e : i = j
      · subst e; rw [upd_same] at this; exact this
      · rw [upd_other f.l e] at this; exact this
  | @put0 x v r h hD =>
    obtain ⟨r0, e0, e1, e2⟩ := store h
    exact ⟨⟨u.ws.set x.toNat v, u.ts, u.D, u.bs, upd u.l j r0, u.n⟩, ⟨by show f.ws.set _ _ = _; rw [R.ws], R.n, others (.inl ⟨rfl, rfl⟩) (.inr (.inl ⟨e0, e2⟩))⟩, .inr (.put0 e1 hu0)⟩
  | @put x v r h hD hl =>
    obtain ⟨r0, e0, e1, e2⟩ := store h
    exact ⟨u, ⟨R.ws, R.n, keepu (.inr rfl) (.inr (.inr ⟨x, v, r0, by rw [e0]; rfl, e2, e1⟩))⟩, .inl rfl⟩
  | @load x v r h =>
    have k0 : ((1, x, v) : Mv).1 ≠ 0 := (by decide : (1 : Int) ≠ 0)
    have hb0 : f.bs.getD j [] = [] := by
      rcases T with ⟨e, _⟩ | ⟨e, _⟩ | ⟨x', v', r0, _, e, _⟩
      · exact e
      · exact e
      · rw [h] at e; injection e with e1; injection e1 with e1; cases e1
    rcases same h k0 hb0 with ⟨r0, e1, e2⟩ | ⟨e1, _⟩
    · refine ⟨_, ⟨?_, ?_, ?_⟩, .inr (.load e1)⟩
      · exact R.ws
      · show upd f.n j _ = upd u.n j _
        rw [hb0, hub j, R.n, R.ws]
      · exact others (.inl ⟨rfl, rfl⟩) (.inl ⟨hb0, e2⟩)
    · injection e1 with e1; cases e1
  | @fence x v r h hb =>
    rcases same h (by decide : (2 : Int) ≠ 0) hb with ⟨r0, e1, e2⟩ | ⟨_, e2⟩
    · exact ⟨⟨u.ws, u.ts, u.D, u.bs, upd u.l j r0, u.n⟩, ⟨R.ws, R.n, others (.inl ⟨rfl, rfl⟩) (.inl ⟨hb, e2⟩)⟩, .inr (.fence e1 (hub j))⟩
    · exact ⟨u, ⟨R.ws, R.n, keepu (.inl ⟨rfl, rfl⟩) (.inl ⟨hb, e2⟩)⟩, .inl rfl⟩
  | @xchg x v r h hb =>
    rcases same h (by decide : (3 : Int) ≠ 0) hb with ⟨r0, e1, e2⟩ | ⟨e1, _⟩
    · refine ⟨_, ⟨?_, ?_, ?_⟩, .inr (.xchg e1 (hub j))⟩
      · show f.ws.set _ _ = u.ws.set _ _; rw [R.ws]
      · show upd f.n j _ = upd u.n j _
        rw [R.n, R.ws]
      · exact others (.inl ⟨rfl, rfl⟩) (.inl ⟨hb, e2⟩)
    · injection e1 with e1; cases e1

/-! ### the other way -/
/-- a stage at depth 0, fenced -/
def fenS (D : Int) (s : St) : St := ⟨s.ws, s.ts, D, s.bs, fun j => fen (s.l j), s.n⟩
theorem fen_upd (g : Nat → List Mv) (j : Nat) (r : List Mv) : (fun i => fen (upd g j r i)) = upd (fun i => fen (g i)) j (fen r) := by
  funext i
  by_cases e : i = j
  · subst e; rw [upd_same, upd_same]
  · rw [upd_other _ e, upd_other _ e]
theorem fen_map (ts : List (List Mv)) (j : Nat) : (ts.map fen).getD j [] = fen (ts.getD j []) := by
  rw [List.getD_eq_getElem?_getD, List.getD_eq_getElem?_getD, List.getElem?_map]
  cases ts[j]? <;> rfl
theorem ended_fen (D : Int) (s : St) (l : Nat) : endedB (fenS D s) l = endedB s l := by
  have e : doneB (fenS D s) = doneB s := by
    funext j
    show (decide ((fen (s.l j)).length = 0) && decide ((s.bs.getD j []).length = 0)) = (decide ((s.l j).length = 0) && decide ((s.bs.getD j []).length = 0))
    congr 1
    rw [Bool.eq_iff_iff, decide_eq_true_eq, decide_eq_true_eq]
    constructor
    · intro h
      rw [fen_nil (List.eq_nil_of_length_eq_zero h)]; rfl
    · intro h
      rw [List.eq_nil_of_length_eq_zero h]; rfl
  rw [endedB, endedB, e]
theorem len_fen (ms : List Mv) : ms.length ≤ (fen ms).length := by
  induction ms with
  | nil => exact Nat.le_refl _
  | cons m r ih => rw [fen]; split <;> simp only [List.length_cons] <;> omega
theorem mem_fen {ms : List Mv} {m : Mv} (h : m ∈ ms) : m ∈ fen ms := by
  induction ms with
  | nil => cases h
  | cons a r ih =>
    rw [fen]
    rcases List.mem_cons.1 h with rfl | h
    · split <;> exact List.mem_cons_self
    · split
      · exact List.mem_cons_of_mem _ (List.mem_cons_of_mem _ (ih h))
      · exact List.mem_cons_of_mem _ (ih h)
theorem total_fen (ts : List (List Mv)) : total ts ≤ total (ts.map fen) := by
  induction ts with
  | nil => exact Nat.le_refl _
  | cons a r ih =>
    simp only [total, List.map_cons, List.sum_cons] at ih ⊢
    have := len_fen a
    omega
/-- where the fenced test may be, the test at depth 0 may be -/
theorem may_fen (hm : mayL W D (ts.map fen) = true) : mayL W 0 ts = true := by
  obtain ⟨h1, h2, h3, h4⟩ := mayL_parts hm
  rw [List.length_map] at h2
  have := total_fen ts
  exact mayL_mk ⟨h1.1, h1.2.1, by omega, by omega⟩ h2 (by omega) fun t ht m hmm => h4 _ (List.mem_map.2 ⟨t, ht, rfl⟩) m (mem_fen hmm)
theorem nobuf {s : St} (K : Ok W 0 ts s) (i : Nat) : s.bs.getD i [] = [] := by
  by_cases hi : i < ts.length
  · exact List.eq_nil_of_length_eq_zero (by have := (K.th i hi).len; omega)
  · rw [List.getD_eq_getElem?_getD, List.getElem?_eq_none (by rw [K.bl]; omega)]; rfl
theorem fen_begin : FRel ts.length (beginS W D (ts.map fen)) (beginS W 0 ts) := by
  refine ⟨rfl, rfl, fun j hj => .inl ⟨?_, fen_map ts j⟩⟩
  show (List.replicate (ts.map fen).length ([] : List (Int × Int))).getD j [] = []
  rw [List.getD_eq_getElem?_getD, List.getElem?_replicate]; split <;> rfl
theorem fen_reach1 (hm : mayL W D (ts.map fen) = true) (h : Reach W D (ts.map fen) f) : ∃ u, Reach W 0 ts u ∧ FRel ts.length f u := by
  have hm0 := may_fen hm
  induction h with
  | refl => exact ⟨_, .refl, fen_begin⟩
  | @step s t h hf ht ih =>
    obtain ⟨u, hu, R⟩ := ih
    have K := reach_ok hm h
    have L := reach_ok hm0 hu
    obtain ⟨j, hj, hs⟩ := (mem_next hm K _).1 ht
    rw [List.length_map] at hj
    obtain ⟨u', R', e⟩ := frel_step R hj (by rw [K.bl, List.length_map]) L.dd (nobuf L) hs
    rcases e with rfl | e
    · exact ⟨_, hu, R'⟩
    · refine ⟨u', .step hu ?_ ((mem_next hm0 L _).2 ⟨j, hj, e⟩), R'⟩
      refine endedB_no hj ?_
      have : u.l j ≠ [] := by
        intro h0
        cases e with
        | flush h => rw [nobuf L j] at h; cases h
        | put0 h => rw [h0] at h; cases h
        | put h => rw [h0] at h; cases h
        | load h => rw [h0] at h; cases h
        | fence h => rw [h0] at h; cases h
        | xchg h => rw [h0] at h; cases h
      have hl : (u.l j).length ≠ 0 := fun q => this (List.eq_nil_of_length_eq_zero q)
      simp [doneB, hl]
theorem fen_ended (R : FRel ts.length f u) (hb : ∀ i, u.bs.getD i [] = []) (h : endedB f ts.length = true) : endedB u ts.length = true := by
  refine endedB_yes fun j hj => ?_
  have h1 := List.all_eq_true.1 h j (List.mem_range.2 hj)
  simp only [doneB, Bool.and_eq_true, decide_eq_true_eq] at h1 ⊢
  rw [hb j]
  refine ⟨?_, rfl⟩
  rcases R.th j hj with ⟨_, e⟩ | ⟨_, e⟩ | ⟨x, v, r, e, _⟩
  · rw [List.eq_nil_of_length_eq_zero h1.1] at e
    rw [fen_nil e.symm]; rfl
  · rw [List.eq_nil_of_length_eq_zero h1.1] at e; cases e
  · rw [e] at h1; exact absurd h1.2 (by simp)
theorem fen_step (hm : mayL W D (ts.map fen) = true) (L : Ok W 0 ts u) (R : Reach W D (ts.map fen) (fenS D u)) (hf : endedB u ts.length = false) {j : Nat} (hj : j < ts.length) {v : St} (h : Stp u j v) : Reach W D (ts.map fen) (fenS D v) := by
  have hle : (ts.map fen).length = ts.length := List.length_map _
  have next : ∀ {a b : St}, Reach W D (ts.map fen) a → endedB a ts.length = false → Stp a j b → Reach W D (ts.map fen) b := fun {a b} ra ha hs => .step ra (by rw [hle]; exact ha) ((mem_next hm (reach_ok hm ra) b).2 ⟨j, by rw [hle]; exact hj, hs⟩)
  have busy : ∀ {a : St}, a.l j ≠ [] → endedB a ts.length = false := fun {a} h0 => endedB_no hj (by
    have hl : (a.l j).length ≠ 0 := fun q => h0 (List.eq_nil_of_length_eq_zero q)
    simp [doneB, hl])
  have hub := nobuf L
  have hjb : j < u.bs.length := by rw [L.bl]; exact hj
  have hf0 : endedB (fenS D u) ts.length = false := by rw [ended_fen]; exact hf
  obtain ⟨⟨_, _, hD0, _⟩, _⟩ := mayL_parts hm
  cases h with
  | flush h => rw [hub j] at h; cases h
  | @put0 x v r h hD =>
    have hl : (fenS D u).l j = (0, x, v) :: (2, 0, 0) :: fen r := by show fen (u.l j) = _; rw [h]; rfl
    -- behind the store, in memory, the fence still ahead
    have mid : Reach W D (ts.map fen) ⟨u.ws.set x.toNat v, u.ts, D, u.bs, upd (fun i => fen (u.l i)) j ((2, 0, 0) :: fen r), u.n⟩ := by
      by_cases hz : D = 0
      · exact next R hf0 (.put0 (s := fenS D u) hl hz)
      · have r1 := next R hf0 (.put (s := fenS D u) hl hz (by show ((u.bs.getD j []).length : Int) ≠ D; rw [hub j]; exact fun q => hz q.symm))
        have hb1 : (u.bs.set j (u.bs.getD j [] ++ [(x, v)])).getD j [] = [(x, v)] := by rw [getD_setB hjb, hub j]; rfl
        have r2 := next r1 (busy (by show upd (fun i => fen (u.l i)) j ((2, 0, 0) :: fen r) j ≠ []; rw [upd_same]; exact List.cons_ne_nil _ _)) (.flush (p := (x, v)) (r := []) hb1)
        have e : (u.bs.set j (u.bs.getD j [] ++ [(x, v)])).set j [] = u.bs := set_back hjb _ (hub j)
        have r2' : Reach W D (ts.map fen) ⟨u.ws.set x.toNat v, u.ts, D, (u.bs.set j (u.bs.getD j [] ++ [(x, v)])).set j [], upd (fun i => fen (u.l i)) j ((2, 0, 0) :: fen r), u.n⟩ := r2
        rw [e] at r2'
        exact r2'
    have r3 := next mid (busy (by show upd (fun i => fen (u.l i)) j ((2, 0, 0) :: fen r) j ≠ []; rw [upd_same]; exact List.cons_ne_nil _ _)) (.fence (x := 0) (v := 0) (r := fen r) (by show upd (fun i => fen (u.l i)) j ((2, 0, 0) :: fen r) j = _; rw [upd_same]) (hub j))
    have e : upd (upd (fun i => fen (u.l i)) j ((2, 0, 0) :: fen r)) j (fen r) = fun i => fen (upd u.l j r i) := by
      rw [fen_upd]
      funext i
      by_cases q : i = j
      · subst q; rw [upd_same, upd_same]
      · rw [upd_other _ q, upd_other _ q, upd_other _ q]
    have r3' : Reach W D (ts.map fen) ⟨u.ws.set x.toNat v, u.ts, D, u.bs, upd (upd (fun i => fen (u.l i)) j ((2, 0, 0) :: fen r)) j (fen r), u.n⟩ := r3
    rw [e] at r3'
    exact r3'
  | put h hD hl => exact absurd L.dd hD
  | @load x v r h =>
    have hl : (fenS D u).l j = (1, x, v) :: fen r := by show fen (u.l j) = _; rw [h]; rfl
    have r1 := next R hf0 (.load (s := fenS D u) hl)
    show Reach W D (ts.map fen) ⟨_, _, _, _, fun i => fen (upd u.l j r i), _⟩
    rw [fen_upd]; exact r1
  | @fence x v r h hb =>
    have hl : (fenS D u).l j = (2, x, v) :: fen r := by show fen (u.l j) = _; rw [h]; rfl
    have r1 := next R hf0 (.fence (s := fenS D u) hl (hub j))
    show Reach W D (ts.map fen) ⟨_, _, _, _, fun i => fen (upd u.l j r i), _⟩
    rw [fen_upd]; exact r1
  | @xchg x v r h hb =>
    have hl : (fenS D u).l j = (3, x, v) :: fen r := by show fen (u.l j) = _; rw [h]; rfl
    have r1 := next R hf0 (.xchg (s := fenS D u) hl (hub j))
    show Reach W D (ts.map fen) ⟨_, _, _, _, fun i => fen (upd u.l j r i), _⟩
    rw [fen_upd]; exact r1
theorem fen_reach2 (hm : mayL W D (ts.map fen) = true) (h : Reach W 0 ts u) : Reach W D (ts.map fen) (fenS D u) := by
  have hm0 := may_fen hm
  induction h with
  | refl =>
    have e : fenS D (beginS W 0 ts) = beginS W D (ts.map fen) := by
      simp only [fenS, beginS, List.length_map]
      congr 1
      funext j
      exact (fen_map ts j).symm
    rw [e]; exact .refl
  | @step s t h hf ht ih =>
    have L := reach_ok hm0 h
    obtain ⟨j, hj, hs⟩ := (mem_next hm0 L _).1 ht
    exact fen_step hm L ih hf hj hs
/-- fences behind all stores take waiting away -/
theorem rows_fen (hm : mayL W D (ts.map fen) = true) (o : List Int) : o ∈ rowsL W D (ts.map fen) ↔ o ∈ rowsL W 0 ts := by
  have hm0 := may_fen hm
  have hle : (ts.map fen).length = ts.length := List.length_map _
  constructor
  · intro h
    obtain ⟨f, hf, he, ho⟩ := ((rows_once hm).2 o).1 h
    obtain ⟨u, hu, R⟩ := fen_reach1 hm hf
    rw [hle] at he
    refine ((rows_once hm0).2 o).2 ⟨u, hu, fen_ended R (nobuf (reach_ok hm0 hu)) he, ?_⟩
    rw [← ho, outS, outS, R.n, R.ws]
  · intro h
    obtain ⟨u, hu, he, ho⟩ := ((rows_once hm0).2 o).1 h
    exact ((rows_once hm).2 o).2 ⟨fenS D u, fen_reach2 hm hu, by rw [hle, ended_fen]; exact he, ho⟩
end
end Go.Proofs.YtiebaeaomgpicaaGreat
/- The tests of LitmusPasses: what their outcomes are. Nothing of the program is imported. -/
namespace Go.Proofs.YtiebaeaomgpicaaGreat

def sendL (a b : Int) : List (List Mv) := [[(0, 0, a), (0, 1, b)], [(1, 1, 0), (1, 0, 0)]]
def crossL (a b : Int) : List (List Mv) := [[(0, 0, a), (1, 1, 0)], [(0, 1, b), (1, 0, 0)]]
section
variable {a b D : Int} {s t : St}
theorem fits_c {W : Int} {m : Mv} (h : m = (1, 1, 0) ∨ m = (1, 0, 0) ∨ ∃ x v, m = (0, x, v) ∧ 0 ≤ x ∧ x < 2 ∧ 1 ≤ v ∧ v ≤ 9) (hW : W = 2) : fitsB W m = true := by
  subst hW
  simp only [fitsB, decide_eq_true_eq]
  rcases h with rfl | rfl | ⟨x, v, rfl, h1, h2, h3, h4⟩
  · decide
  · decide
  · exact ⟨h1, h2, by show 0 ≤ v; omega, h4, .inl rfl⟩
theorem may_send (ha : 1 ≤ a ∧ a ≤ 9) (hb : 1 ≤ b ∧ b ≤ 9) (hD : 0 ≤ D ∧ D ≤ 3) : mayL 2 D (sendL a b) = true := by
  refine mayL_mk ⟨by decide, by decide, hD.1, hD.2⟩ (by simp [sendL]) (by simp [total, sendL]) fun t ht m hm => fits_c ?_ rfl
  simp only [sendL, List.mem_cons, List.not_mem_nil, or_false] at ht
  rcases ht with rfl | rfl
  · simp only [List.mem_cons, List.not_mem_nil, or_false] at hm
    rcases hm with rfl | rfl
    · exact .inr (.inr ⟨0, a, rfl, by decide, by decide, ha.1, ha.2⟩)
    · exact .inr (.inr ⟨1, b, rfl, by decide, by decide, hb.1, hb.2⟩)
  · simp only [List.mem_cons, List.not_mem_nil, or_false] at hm
    rcases hm with rfl | rfl
    · exact .inl rfl
    · exact .inr (.inl rfl)
theorem may_cross (ha : 1 ≤ a ∧ a ≤ 9) (hb : 1 ≤ b ∧ b ≤ 9) (hD : 0 ≤ D ∧ D ≤ 3) : mayL 2 D (crossL a b) = true := by
  refine mayL_mk ⟨by decide, by decide, hD.1, hD.2⟩ (by simp [crossL]) (by simp [total, crossL]) fun t ht m hm => fits_c ?_ rfl
  simp only [crossL, List.mem_cons, List.not_mem_nil, or_false] at ht
  rcases ht with rfl | rfl
  · simp only [List.mem_cons, List.not_mem_nil, or_false] at hm
    rcases hm with rfl | rfl
    · exact .inr (.inr ⟨0, a, rfl, by decide, by decide, ha.1, ha.2⟩)
    · exact .inl rfl
  · simp only [List.mem_cons, List.not_mem_nil, or_false] at hm
    rcases hm with rfl | rfl
    · exact .inr (.inr ⟨1, b, rfl, by decide, by decide, hb.1, hb.2⟩)
    · exact .inr (.inl rfl)
/-- who sees the flag sees the text -/
structure PInv (a b : Int) (s : St) : Prop where
  t0 : (s.l 0 = [(0, 0, a), (0, 1, b)] ∧ s.bs.getD 0 [] = [] ∧ s.ws = [0, 0]) ∨ (s.l 0 = [(0, 1, b)] ∧ s.bs.getD 0 [] = [(0, a)] ∧ s.ws = [0, 0]) ∨ (s.l 0 = [(0, 1, b)] ∧ s.bs.getD 0 [] = [] ∧ s.ws = [a, 0]) ∨
    (s.l 0 = [] ∧ s.bs.getD 0 [] = [(0, a), (1, b)] ∧ s.ws = [0, 0]) ∨ (s.l 0 = [] ∧ s.bs.getD 0 [] = [(1, b)] ∧ s.ws = [a, 0]) ∨ (s.l 0 = [] ∧ s.bs.getD 0 [] = [] ∧ s.ws = [a, b])
  b1 : s.bs.getD 1 [] = []
  t1 : (s.l 1 = [(1, 1, 0), (1, 0, 0)] ∧ s.n 1 = []) ∨ (∃ x, s.l 1 = [(1, 0, 0)] ∧ s.n 1 = [x] ∧ (x = b → s.ws = [a, b])) ∨ ∃ x y, s.l 1 = [] ∧ s.n 1 = [x, y] ∧ (x = b → y = a)
theorem two_bs {bs : List (List (Int × Int))} (h : bs.length = 2) (r : List (Int × Int)) :
    (bs.set 0 r).getD 0 [] = r ∧ (bs.set 0 r).getD 1 [] = bs.getD 1 [] ∧ (bs.set 1 r).getD 0 [] = bs.getD 0 [] ∧ (bs.set 1 r).getD 1 [] = r := by
  match bs, h with
  | [x, y], _ => exact ⟨rfl, rfl, rfl, rfl⟩
theorem pinv_step (hb0 : b ≠ 0) (hl2 : s.bs.length = 2) (hD0 : s.D = 0 → s.bs.getD 0 [] = []) (I : PInv a b s) {j : Nat} (hj : j < 2) (h : Stp s j t) : PInv a b t := by
  have e := two_bs hl2
  rcases (show j = 0 ∨ j = 1 by omega) with rfl | rfl
  · -- the sender; what the other one has seen stays so
    have keep : ∀ {ws : List Int}, (s.ws = [a, b] → ws = [a, b]) → (s.l 1 = [(1, 1, 0), (1, 0, 0)] ∧ s.n 1 = []) ∨ (∃ x, s.l 1 = [(1, 0, 0)] ∧ s.n 1 = [x] ∧ (x = b → ws = [a, b])) ∨ ∃ x y, s.l 1 = [] ∧ s.n 1 = [x, y] ∧ (x = b → y = a) := by
      intro ws hw
      rcases I.t1 with h | ⟨x, h1, h2, h3⟩ | h
      · exact .inl h
      · exact .inr (.inl ⟨x, h1, h2, fun q => hw (h3 q)⟩)
      · exact .inr (.inr h)
    cases h with
    | @flush p r h =>
      rcases I.t0 with ⟨k1, k2, k3⟩ | ⟨k1, k2, k3⟩ | ⟨k1, k2, k3⟩ | ⟨k1, k2, k3⟩ | ⟨k1, k2, k3⟩ | ⟨k1, k2, k3⟩
      · rw [h] at k2; cases k2
      · rw [h] at k2; injection k2 with q1 q2; subst q1 q2
        refine ⟨.inr (.inr (.inl ⟨k1, (e []).1, by show s.ws.set _ _ = _; rw [k3]; rfl⟩)), (e []).2.1.trans I.b1, keep fun q => ?_⟩
        rw [k3] at q; injection q with _ q; injection q with q; exact absurd q.symm hb0
      · rw [h] at k2; cases k2
      · rw [h] at k2; injection k2 with q1 q2; subst q1 q2
        refine ⟨.inr (.inr (.inr (.inr (.inl ⟨k1, (e _).1, by show s.ws.set _ _ = _; rw [k3]; rfl⟩)))), (e _).2.1.trans I.b1, keep fun q => ?_⟩
        rw [k3] at q; injection q with _ q; injection q with q; exact absurd q.symm hb0
      · rw [h] at k2; injection k2 with q1 q2; subst q1 q2
        refine ⟨.inr (.inr (.inr (.inr (.inr ⟨k1, (e []).1, by show s.ws.set _ _ = _; rw [k3]; rfl⟩)))), (e []).2.1.trans I.b1, keep fun q => ?_⟩
        rw [k3] at q; injection q with _ q; injection q with q; exact absurd q.symm hb0
      · rw [h] at k2; cases k2
    | @put0 x v r h hD =>
      rcases I.t0 with ⟨k1, k2, k3⟩ | ⟨k1, k2, k3⟩ | ⟨k1, k2, k3⟩ | ⟨k1, k2, k3⟩ | ⟨k1, k2, k3⟩ | ⟨k1, k2, k3⟩
      · rw [h] at k1; injection k1 with q1 q2; injection q1 with q1 q3; injection q3 with q3 q4; subst q2 q3 q4
        refine ⟨.inr (.inr (.inl ⟨(show upd s.l 0 _ 0 = _ from upd_same _ _ _), k2, by show s.ws.set _ _ = _; rw [k3]; rfl⟩)), I.b1, keep fun q => ?_⟩
        rw [k3] at q; injection q with _ q; injection q with q; exact absurd q.symm hb0
      · rw [hD0 hD] at k2; cases k2
      · rw [h] at k1; injection k1 with q1 q2; injection q1 with q1 q3; injection q3 with q3 q4; subst q2 q3 q4
        refine ⟨.inr (.inr (.inr (.inr (.inr ⟨(show upd s.l 0 _ 0 = _ from upd_same _ _ _), k2, by show s.ws.set _ _ = _; rw [k3]; rfl⟩)))), I.b1, keep fun q => ?_⟩
        rw [k3] at q; injection q with _ q; injection q with q; exact absurd q.symm hb0
      · rw [h] at k1; cases k1
      · rw [h] at k1; cases k1
      · rw [h] at k1; cases k1
    | @put x v r h hD hl =>
      rcases I.t0 with ⟨k1, k2, k3⟩ | ⟨k1, k2, k3⟩ | ⟨k1, k2, k3⟩ | ⟨k1, k2, k3⟩ | ⟨k1, k2, k3⟩ | ⟨k1, k2, k3⟩
      · rw [h] at k1; injection k1 with q1 q2; injection q1 with q1 q3; injection q3 with q3 q4; subst q2 q3 q4
        exact ⟨.inr (.inl ⟨(show upd s.l 0 _ 0 = _ from upd_same _ _ _), by show (s.bs.set 0 _).getD 0 [] = _; rw [(e _).1, k2]; rfl, k3⟩), (e _).2.1.trans I.b1, keep id⟩
      · rw [h] at k1; injection k1 with q1 q2; injection q1 with q1 q3; injection q3 with q3 q4; subst q2 q3 q4
        exact ⟨.inr (.inr (.inr (.inl ⟨(show upd s.l 0 _ 0 = _ from upd_same _ _ _), by show (s.bs.set 0 _).getD 0 [] = _; rw [(e _).1, k2]; rfl, k3⟩))), (e _).2.1.trans I.b1, keep id⟩
      · rw [h] at k1; injection k1 with q1 q2; injection q1 with q1 q3; injection q3 with q3 q4; subst q2 q3 q4
        exact ⟨.inr (.inr (.inr (.inr (.inl ⟨(show upd s.l 0 _ 0 = _ from upd_same _ _ _), by show (s.bs.set 0 _).getD 0 [] = _; rw [(e _).1, k2]; rfl, k3⟩)))), (e _).2.1.trans I.b1, keep id⟩
      · rw [h] at k1; cases k1
      · rw [h] at k1; cases k1
      · rw [h] at k1; cases k1
    | @load x v r h => rcases I.t0 with ⟨k1, _⟩ | ⟨k1, _⟩ | ⟨k1, _⟩ | ⟨k1, _⟩ | ⟨k1, _⟩ | ⟨k1, _⟩ <;> rw [h] at k1 <;> cases k1
    | @fence x v r h hb => rcases I.t0 with ⟨k1, _⟩ | ⟨k1, _⟩ | ⟨k1, _⟩ | ⟨k1, _⟩ | ⟨k1, _⟩ | ⟨k1, _⟩ <;> rw [h] at k1 <;> cases k1
    | @xchg x v r h hb => rcases I.t0 with ⟨k1, _⟩ | ⟨k1, _⟩ | ⟨k1, _⟩ | ⟨k1, _⟩ | ⟨k1, _⟩ | ⟨k1, _⟩ <;> rw [h] at k1 <;> cases k1
  · cases h with
    | flush h => rw [I.b1] at h; cases h
    | @load x v r h =>
      rcases I.t1 with ⟨k1, k2⟩ | ⟨z, k1, k2, k3⟩ | ⟨z, y, k1, _⟩
      · rw [h] at k1; injection k1 with q1 q2; injection q1 with q1 q3; injection q3 with q3 q4; subst q2 q3
        refine ⟨I.t0, I.b1, .inr (.inl ⟨s.ws.getD 1 0, (show upd s.l 1 _ 1 = _ from upd_same _ _ _), ?_, fun q => ?_⟩)⟩
        · show upd s.n 1 _ 1 = _
          rw [upd_same, k2, I.b1]; rfl
        · show s.ws = _
          rcases I.t0 with ⟨_, _, k⟩ | ⟨_, _, k⟩ | ⟨_, _, k⟩ | ⟨_, _, k⟩ | ⟨_, _, k⟩ | ⟨_, _, k⟩
          · rw [k] at q; exact absurd q.symm hb0
          · rw [k] at q; exact absurd q.symm hb0
          · rw [k] at q; exact absurd q.symm hb0
          · rw [k] at q; exact absurd q.symm hb0
          · rw [k] at q; exact absurd q.symm hb0
          · exact k
      · rw [h] at k1; injection k1 with q1 q2; injection q1 with q1 q3; injection q3 with q3 q4; subst q2 q3
        refine ⟨I.t0, I.b1, .inr (.inr ⟨z, s.ws.getD 0 0, (show upd s.l 1 _ 1 = _ from upd_same _ _ _), ?_, fun q => ?_⟩)⟩
        · show upd s.n 1 _ 1 = _
          rw [upd_same, k2, I.b1]; rfl
        · rw [k3 q]; rfl
      · rw [h] at k1; cases k1
    | @put0 x v r h hD => rcases I.t1 with ⟨k1, _⟩ | ⟨_, k1, _⟩ | ⟨_, _, k1, _⟩ <;> rw [h] at k1 <;> cases k1
    | @put x v r h hD hl => rcases I.t1 with ⟨k1, _⟩ | ⟨_, k1, _⟩ | ⟨_, _, k1, _⟩ <;> rw [h] at k1 <;> cases k1
    | @fence x v r h hb => rcases I.t1 with ⟨k1, _⟩ | ⟨_, k1, _⟩ | ⟨_, _, k1, _⟩ <;> rw [h] at k1 <;> cases k1
    | @xchg x v r h hb => rcases I.t1 with ⟨k1, _⟩ | ⟨_, k1, _⟩ | ⟨_, _, k1, _⟩ <;> rw [h] at k1 <;> cases k1
theorem send_reach (ha : 1 ≤ a ∧ a ≤ 9) (hb : 1 ≤ b ∧ b ≤ 9) (hD : 0 ≤ D ∧ D ≤ 3) (h : Reach 2 D (sendL a b) s) : PInv a b s := by
  have hm := may_send ha hb hD
  induction h with
  | refl => exact ⟨.inl ⟨rfl, rfl, rfl⟩, rfl, .inl ⟨rfl, rfl⟩⟩
  | @step s t h hf ht ih =>
    have K := reach_ok hm h
    obtain ⟨j, hj, hs⟩ := (mem_next hm K _).1 ht
    exact pinv_step (by omega) K.bl (fun q => List.eq_nil_of_length_eq_zero (by have h1 := (K.th 0 (show 0 < 2 by decide)).len; rw [← K.dd, q] at h1; omega)) ih hj hs
/-- nobody who sees the flag, and then looks, misses the text -/
theorem send_missed (ha : 1 ≤ a ∧ a ≤ 9) (hb : 1 ≤ b ∧ b ≤ 9) (hD : 0 ≤ D ∧ D ≤ 3) : [b, 0, a, b] ∉ rowsL 2 D (sendL a b) := by
  intro h
  have hm := may_send ha hb hD
  obtain ⟨s, hs, he, ho⟩ := ((rows_once hm).2 _).1 h
  have I := send_reach ha hb hD hs
  have K := reach_ok hm hs
  have hd : ∀ j, j < 2 → s.l j = [] := fun j hj => by
    have h1 := List.all_eq_true.1 he j (List.mem_range.2 hj)
    simp only [doneB, Bool.and_eq_true, decide_eq_true_eq] at h1
    exact List.eq_nil_of_length_eq_zero h1.1
  have n0 : s.n 0 = [] := by
    obtain ⟨ms, e, _, hn⟩ := (K.th 0 (show 0 < 2 by decide)).made
    rw [hd 0 (by decide), List.append_nil] at e
    have e2 : [(0, 0, a), (0, 1, b)] = ms := e
    subst e2
    exact List.eq_nil_of_length_eq_zero hn
  have n2 : s.n 2 = [] := (K.rest 2 (Nat.le_refl _)).2
  rw [outS, n0, n2, List.nil_append, List.append_nil] at ho
  rcases I.t1 with ⟨k, _⟩ | ⟨x, k, _⟩ | ⟨x, y, _, k2, k3⟩
  · rw [hd 1 (by decide)] at k; cases k
  · rw [hd 1 (by decide)] at k; cases k
  · rw [k2] at ho
    injection ho with h1 h2
    injection h2 with h2 _
    have := k3 h1
    omega
end
end Go.Proofs.YtiebaeaomgpicaaGreat
/- The tests of LitmusPasses, on: what can come out, and what the other test's outcomes are. Nothing of the program is imported. -/
namespace Go.Proofs.YtiebaeaomgpicaaGreat

section
variable {a b D : Int} {s t : St}
theorem go_on {W : Int} {ts : List (List Mv)} (hm : mayL W D ts = true) (R : Reach W D ts s) (hf : endedB s ts.length = false) {j : Nat} (hj : j < ts.length) (h : Stp s j t) : Reach W D ts t :=
  .step R hf ((mem_next hm (reach_ok hm R) t).2 ⟨j, hj, h⟩)
/-- what is an outcome at a depth is one at each greater one -/
theorem rows_up {W : Int} {ts : List (List Mv)} {o : List Int} {D0 : Int} (hm : ∀ D : Int, D0 ≤ D ∧ D ≤ 3 → mayL W D ts = true) (h : o ∈ rowsL W D0 ts) : ∀ k : Nat, D0 + k ≤ 3 → o ∈ rowsL W (D0 + k) ts := by
  intro k
  induction k with
  | zero => intro _; rw [show D0 + ((0 : Nat) : Int) = D0 by omega]; exact h
  | succ k ih =>
    intro hk
    have h1 := rows_grow (hm (D0 + k) (by omega)) (hm (D0 + k + 1) (by omega)) (ih (by omega))
    rw [show D0 + ((k + 1 : Nat) : Int) = D0 + k + 1 by omega]; exact h1
theorem send_got0 (ha : 1 ≤ a ∧ a ≤ 9) (hb : 1 ≤ b ∧ b ≤ 9) : [b, a, a, b] ∈ rowsL 2 0 (sendL a b) := by
  have hm := may_send (D := 0) ha hb (by decide)
  have r0 : Reach 2 0 (sendL a b) (beginS 2 0 (sendL a b)) := .refl
  have r1 := go_on hm r0 rfl (show 0 < 2 by decide) (.put0 (x := 0) (v := a) (r := [(0, 1, b)]) rfl rfl)
  have r2 := go_on hm r1 rfl (show 0 < 2 by decide) (.put0 (x := 1) (v := b) (r := []) rfl rfl)
  have r3 := go_on hm r2 rfl (show 1 < 2 by decide) (.load (x := 1) (v := 0) (r := [(1, 0, 0)]) rfl)
  have r4 := go_on hm r3 rfl (show 1 < 2 by decide) (.load (x := 0) (v := 0) (r := []) rfl)
  exact ((rows_once hm).2 _).2 ⟨_, r4, rfl, rfl⟩
theorem send_early0 (ha : 1 ≤ a ∧ a ≤ 9) (hb : 1 ≤ b ∧ b ≤ 9) : [0, a, a, b] ∈ rowsL 2 0 (sendL a b) := by
  have hm := may_send (D := 0) ha hb (by decide)
  have r0 : Reach 2 0 (sendL a b) (beginS 2 0 (sendL a b)) := .refl
  have r1 := go_on hm r0 rfl (show 1 < 2 by decide) (.load (x := 1) (v := 0) (r := [(1, 0, 0)]) rfl)
  have r2 := go_on hm r1 rfl (show 0 < 2 by decide) (.put0 (x := 0) (v := a) (r := [(0, 1, b)]) rfl rfl)
  have r3 := go_on hm r2 rfl (show 1 < 2 by decide) (.load (x := 0) (v := 0) (r := []) rfl)
  have r4 := go_on hm r3 rfl (show 0 < 2 by decide) (.put0 (x := 1) (v := b) (r := []) rfl rfl)
  exact ((rows_once hm).2 _).2 ⟨_, r4, rfl, rfl⟩
theorem cross_both1 (ha : 1 ≤ a ∧ a ≤ 9) (hb : 1 ≤ b ∧ b ≤ 9) : [0, 0, a, b] ∈ rowsL 2 1 (crossL a b) := by
  have hm := may_cross (D := 1) ha hb (by decide)
  have r0 : Reach 2 1 (crossL a b) (beginS 2 1 (crossL a b)) := .refl
  have r1 := go_on hm r0 rfl (show 0 < 2 by decide) (.put (x := 0) (v := a) (r := [(1, 1, 0)]) rfl (show (1 : Int) ≠ 0 by decide) (show ((0 : Nat) : Int) ≠ 1 by decide))
  have r2 := go_on hm r1 rfl (show 1 < 2 by decide) (.put (x := 1) (v := b) (r := [(1, 0, 0)]) rfl (show (1 : Int) ≠ 0 by decide) (show ((0 : Nat) : Int) ≠ 1 by decide))
  have r3 := go_on hm r2 rfl (show 0 < 2 by decide) (.load (x := 1) (v := 0) (r := []) rfl)
  have r4 := go_on hm r3 rfl (show 1 < 2 by decide) (.load (x := 0) (v := 0) (r := []) rfl)
  have r5 := go_on hm r4 rfl (show 0 < 2 by decide) (.flush (p := (0, a)) (r := []) rfl)
  have r6 := go_on hm r5 rfl (show 1 < 2 by decide) (.flush (p := (1, b)) (r := []) rfl)
  exact ((rows_once hm).2 _).2 ⟨_, r6, rfl, rfl⟩
theorem send_got (ha : 1 ≤ a ∧ a ≤ 9) (hb : 1 ≤ b ∧ b ≤ 9) (k : Nat) (hk : k ≤ 3) : [b, a, a, b] ∈ rowsL 2 k (sendL a b) ∧ [0, a, a, b] ∈ rowsL 2 k (sendL a b) := by
  have h1 := rows_up (fun D hD => may_send ha hb hD) (send_got0 ha hb) k (by omega)
  have h2 := rows_up (fun D hD => may_send ha hb hD) (send_early0 ha hb) k (by omega)
  rw [Int.zero_add] at h1 h2
  exact ⟨h1, h2⟩
theorem cross_both (ha : 1 ≤ a ∧ a ≤ 9) (hb : 1 ≤ b ∧ b ≤ 9) (k : Nat) (h0 : 1 ≤ k) (hk : k ≤ 3) : [0, 0, a, b] ∈ rowsL 2 k (crossL a b) := by
  have h1 := rows_up (fun D hD => may_cross ha hb (by omega)) (cross_both1 ha hb) (k - 1) (by omega)
  rw [show (1 : Int) + ((k - 1 : Nat) : Int) = (k : Int) by omega] at h1
  exact h1
/-- where nothing waits, one of them sees the other one's store -/
structure CInv (a b : Int) (s : St) : Prop where
  b0 : s.bs.getD 0 [] = []
  b1 : s.bs.getD 1 [] = []
  th : ∃ x y : Int, s.ws = [x, y] ∧
    ((s.l 0 = [(0, 0, a), (1, 1, 0)] ∧ s.n 0 = [] ∧ x = 0) ∨ (s.l 0 = [(1, 1, 0)] ∧ s.n 0 = [] ∧ x = a) ∨ ∃ u, s.l 0 = [] ∧ s.n 0 = [u] ∧ x = a ∧ (u = 0 → s.n 1 = [0] → False)) ∧
    ((s.l 1 = [(0, 1, b), (1, 0, 0)] ∧ s.n 1 = [] ∧ y = 0) ∨ (s.l 1 = [(1, 0, 0)] ∧ s.n 1 = [] ∧ y = b) ∨ ∃ v, s.l 1 = [] ∧ s.n 1 = [v] ∧ y = b)
theorem cinv_step (ha0 : a ≠ 0) (hb0 : b ≠ 0) (hD : s.D = 0) (I : CInv a b s) {j : Nat} (hj : j < 2) (h : Stp s j t) : CInv a b t := by
  obtain ⟨i0, i1, x, y, hw, h0, h1⟩ := I
  rcases (show j = 0 ∨ j = 1 by omega) with rfl | rfl
  · cases h with
    | flush h => rw [i0] at h; cases h
    | put h hD' => exact absurd hD hD'
    | @put0 x' v r h hD =>
      rcases h0 with ⟨k1, k2, k3⟩ | ⟨k1, _⟩ | ⟨u, k1, _⟩
      · rw [h] at k1; injection k1 with q1 q2; injection q1 with q1 q3; injection q3 with q3 q4; subst q2 q3 q4
        exact ⟨i0, i1, v, y, by show s.ws.set _ _ = _; rw [hw]; rfl, .inr (.inl ⟨(show upd s.l 0 _ 0 = _ from upd_same _ _ _), k2, rfl⟩), h1⟩
      · rw [h] at k1; cases k1
      · rw [h] at k1; cases k1
    | @load x' v r h =>
      rcases h0 with ⟨k1, k2, k3⟩ | ⟨k1, k2, k3⟩ | ⟨u, k1, _⟩
      · rw [h] at k1; cases k1
      · rw [h] at k1; injection k1 with q1 q2; injection q1 with q1 q3; injection q3 with q3 q4; subst q2 q3
        refine ⟨i0, i1, x, y, hw, .inr (.inr ⟨y, (show upd s.l 0 _ 0 = _ from upd_same _ _ _), ?_, k3, fun hu hn => ?_⟩), h1⟩
        · show upd s.n 0 _ 0 = _
          rw [upd_same, k2, i0, hw]; rfl
        · have hn : s.n 1 = [0] := hn
          rcases h1 with ⟨_, e, _⟩ | ⟨_, e, _⟩ | ⟨v', _, _, e⟩
          · rw [e] at hn; cases hn
          · rw [e] at hn; cases hn
          · exact hb0 (by rw [← e, hu])
      · rw [h] at k1; cases k1
    | @fence x' v r h hb => rcases h0 with ⟨k1, _⟩ | ⟨k1, _⟩ | ⟨_, k1, _⟩ <;> rw [h] at k1 <;> cases k1
    | @xchg x' v r h hb => rcases h0 with ⟨k1, _⟩ | ⟨k1, _⟩ | ⟨_, k1, _⟩ <;> rw [h] at k1 <;> cases k1
  · cases h with
    | flush h => rw [i1] at h; cases h
    | put h hD' => exact absurd hD hD'
    | @put0 x' v r h hD =>
      rcases h1 with ⟨k1, k2, k3⟩ | ⟨k1, _⟩ | ⟨u, k1, _⟩
      · rw [h] at k1; injection k1 with q1 q2; injection q1 with q1 q3; injection q3 with q3 q4; subst q2 q3 q4
        exact ⟨i0, i1, x, v, by show s.ws.set _ _ = _; rw [hw]; rfl, h0, .inr (.inl ⟨(show upd s.l 1 _ 1 = _ from upd_same _ _ _), k2, rfl⟩)⟩
      · rw [h] at k1; cases k1
      · rw [h] at k1; cases k1
    | @load x' v r h =>
      rcases h1 with ⟨k1, k2, k3⟩ | ⟨k1, k2, k3⟩ | ⟨u, k1, _⟩
      · rw [h] at k1; cases k1
      · rw [h] at k1; injection k1 with q1 q2; injection q1 with q1 q3; injection q3 with q3 q4; subst q2 q3
        have hn1 : upd s.n 1 (s.n 1 ++ [(newest (s.bs.getD 1 []) 0).getD (s.ws.getD (Int.toNat 0) 0)]) 1 = [x] := by
          rw [upd_same, k2, i1, hw]; rfl
        refine ⟨i0, i1, x, y, hw, ?_, .inr (.inr ⟨x, (show upd s.l 1 _ 1 = _ from upd_same _ _ _), hn1, k3⟩)⟩
        rcases h0 with ⟨e1, e2, e3⟩ | ⟨e1, e2, e3⟩ | ⟨u, e1, e2, e3, _⟩
        · exact .inl ⟨e1, e2, e3⟩
        · exact .inr (.inl ⟨e1, e2, e3⟩)
        · refine .inr (.inr ⟨u, e1, e2, e3, fun _ hn => ?_⟩)
          have hn2 : [x] = [0] := hn1.symm.trans hn
          injection hn2 with hn2
          exact ha0 (by rw [← e3, hn2])
      · rw [h] at k1; cases k1
    | @fence x' v r h hb => rcases h1 with ⟨k1, _⟩ | ⟨k1, _⟩ | ⟨_, k1, _⟩ <;> rw [h] at k1 <;> cases k1
    | @xchg x' v r h hb => rcases h1 with ⟨k1, _⟩ | ⟨k1, _⟩ | ⟨_, k1, _⟩ <;> rw [h] at k1 <;> cases k1
theorem cross_none (ha : 1 ≤ a ∧ a ≤ 9) (hb : 1 ≤ b ∧ b ≤ 9) : [0, 0, a, b] ∉ rowsL 2 0 (crossL a b) := by
  have hm := may_cross (D := 0) ha hb (by decide)
  have inv : ∀ s, Reach 2 0 (crossL a b) s → CInv a b s := by
    intro s h
    induction h with
    | refl => exact ⟨rfl, rfl, 0, 0, rfl, .inl ⟨rfl, rfl, rfl⟩, .inl ⟨rfl, rfl, rfl⟩⟩
    | @step s t h hf ht ih =>
      have K := reach_ok hm h
      obtain ⟨j, hj, hs⟩ := (mem_next hm K _).1 ht
      exact cinv_step (by omega) (by omega) K.dd ih hj hs
  intro h
  obtain ⟨s, hs, he, ho⟩ := ((rows_once hm).2 _).1 h
  obtain ⟨i0, i1, x, y, hw, h0, h1⟩ := inv s hs
  have K := reach_ok hm hs
  have hd : ∀ j, j < 2 → s.l j = [] := fun j hj => by
    have h1 := List.all_eq_true.1 he j (List.mem_range.2 hj)
    simp only [doneB, Bool.and_eq_true, decide_eq_true_eq] at h1
    exact List.eq_nil_of_length_eq_zero h1.1
  have n2 : s.n 2 = [] := (K.rest 2 (Nat.le_refl _)).2
  rcases h0 with ⟨k, _⟩ | ⟨k, _⟩ | ⟨u, _, e2, _, e4⟩
  · rw [hd 0 (by decide)] at k; cases k
  · rw [hd 0 (by decide)] at k; cases k
  · rcases h1 with ⟨k, _⟩ | ⟨k, _⟩ | ⟨v, _, f2, _⟩
    · rw [hd 1 (by decide)] at k; cases k
    · rw [hd 1 (by decide)] at k; cases k
    · rw [outS, n2, e2, f2, hw] at ho
      injection ho with q1 q2
      injection q2 with q2 _
      exact e4 q1 (by rw [f2, q2])
end
end Go.Proofs.YtiebaeaomgpicaaGreat
/- A test that may be has an outcome. Nothing of the program is imported. -/
namespace Go.Proofs.YtiebaeaomgpicaaGreat
section
variable {W D : Int} {ts : List (List Mv)} {s t : St}
/-- who has not ended has a step -/
theorem step_on (hm : mayL W D ts = true) (K : Ok W D ts s) (hf : endedB s ts.length = false) : ∃ j t, j < ts.length ∧ Stp s j t := by
  obtain ⟨j, hj, hd⟩ : ∃ j, j < ts.length ∧ doneB s j = false := by
    have h1 : ¬ ∀ i, i < ts.length → doneB s i = true := fun h => by rw [endedB_yes h] at hf; cases hf
    simp only [Classical.not_forall] at h1
    obtain ⟨i, hi, h⟩ := h1
    exact ⟨i, hi, by simpa using h⟩
  refine ⟨j, ?_⟩
  cases hb : s.bs.getD j [] with
  | cons p r => exact ⟨_, hj, .flush hb⟩
  | nil =>
    cases hl : s.l j with
    | nil => rw [doneB, hb, hl] at hd; simp at hd
    | cons m r =>
      have hfit : fitsB W m = true := by
        obtain ⟨ms, e, _⟩ := (K.th j hj).made
        exact may_fit hm hj (by rw [e, hl]; simp)
      obtain ⟨k, x, v⟩ := m
      obtain ⟨_, _, _, f4⟩ := fitsB_parts hfit
      dsimp only at f4
      rcases f4 with rfl | rfl | rfl | rfl
      · by_cases hD : s.D = 0
        · exact ⟨_, hj, .put0 hl hD⟩
        · exact ⟨_, hj, .put hl hD (by rw [hb]; intro h; exact hD h.symm)⟩
      · exact ⟨_, hj, .load hl⟩
      · exact ⟨_, hj, .fence hl hb⟩
      · exact ⟨_, hj, .xchg hl hb⟩
theorem some_end (hm : mayL W D ts = true) : ∀ (n : Nat) (s : St), Reach W D ts s → muS ts.length s ≤ n → ∃ t, Reach W D ts t ∧ endedB t ts.length = true := by
  intro n
  induction n with
  | zero =>
    intro s R h
    cases hf : endedB s ts.length with
    | true => exact ⟨s, R, hf⟩
    | false =>
      obtain ⟨j, t, hj, hs⟩ := step_on hm (reach_ok hm R) hf
      have := (stp_ok hm (reach_ok hm R) hj hs).2
      omega
  | succ n ih =>
    intro s R h
    cases hf : endedB s ts.length with
    | true => exact ⟨s, R, hf⟩
    | false =>
      obtain ⟨j, t, hj, hs⟩ := step_on hm (reach_ok hm R) hf
      have := (stp_ok hm (reach_ok hm R) hj hs).2
      exact ih t (.step R hf ((mem_next hm (reach_ok hm R) t).2 ⟨j, hj, hs⟩)) (by omega)
theorem rows_pos (hm : mayL W D ts = true) : 0 < (rowsL W D ts).length := by
  obtain ⟨t, R, hf⟩ := some_end hm _ _ .refl (Nat.le_refl _)
  exact List.length_pos_of_mem (((rows_once hm).2 _).2 ⟨t, R, hf, rfl⟩)
end
/-- the test of alive -/
theorem rows_alive : rowsL 1 0 [[(0, 0, 7)]] = [7] :: [] := by rfl
theorem may_alive : mayL 1 0 [[(0, 0, 7)]] = true := by rfl
end Go.Proofs.YtiebaeaomgpicaaGreat
