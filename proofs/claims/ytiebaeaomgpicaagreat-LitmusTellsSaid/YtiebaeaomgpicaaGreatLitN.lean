/- Package litmus: the world that the closure goes through all stages in. -/
import Derived.Test.YtiebaeaomgpicaaGreatLitE
import Derived.Test.YtiebaeaomgpicaaGreatN2
import Derived.Test.YtiebaeaomgpicaaGreatMapB
import Derived.Test.YtiebaeaomgpicaaGreatMS
import Derived.Maps.OwnIn
namespace Go.Proofs.YtiebaeaomgpicaaGreat
open Go.ChangeShapes Go.WideShapes Go.ChangeAt Go.RowKit
open Gen
open Go.Maps (Keyed)

def nmB (x : List Int) : List UInt8 := x.map fun z => UInt8.ofNat z.toNat
theorem nmB_inj : ∀ {x y : List Int}, (∀ z ∈ x, dig z) → (∀ z ∈ y, dig z) → nmB x = nmB y → x = y
  | [], [], _, _, _ => rfl
  | [], _ :: _, _, _, h => by cases h
  | _ :: _, [], _, _, h => by cases h
  | a :: x, b :: y, hx, hy, h => by
    rw [nmB, nmB, List.map_cons, List.map_cons] at h
    injection h with h1 h2
    obtain ⟨a1, a2⟩ := hx a (by simp)
    obtain ⟨b1, b2⟩ := hy b (by simp)
    have h3 := congrArg UInt8.toNat h1
    rw [UInt8.toNat_ofNat', UInt8.toNat_ofNat', Nat.mod_eq_of_lt (by omega), Nat.mod_eq_of_lt (by omega)] at h3
    have e : a = b := by omega
    rw [e, nmB_inj (fun z hz => hx z (by simp [hz])) (fun z hz => hy z (by simp [hz])) h2]
/-- block bm is a map of the call's own that says of each of these names, and of no other, that it was met -/
def MetMap (w : World) (bm : Nat) (met : List (List Int)) : Prop :=
  (∀ x ∈ met, ∀ z ∈ x, dig z) ∧ ∃ (n : Nat) (D : DataW Unit), w.ownsMap Tryz.prog 9 (plainElem Tryz.prog 4) bm n D ∧ n ≤ met.length ∧ Maps.IsMap D ∧ ∀ k : List UInt8, D.atKey (.string k) (.lit (.bool false)) = .lit (.bool (decide (k ∈ met.map nmB)))
theorem strKey4 : Keyed Tryz.prog 9 := Maps.string_keyed Tryz.underlying9
theorem met_mem {met : List (List Int)} {x : List Int} (h : ∀ x ∈ met, ∀ z ∈ x, dig z) (hx : ∀ z ∈ x, dig z) : decide (nmB x ∈ met.map nmB) = decide (x ∈ met) := by
  rw [decide_eq_decide]
  constructor
  · intro hm
    obtain ⟨y, hy, e⟩ := List.mem_map.1 hm
    rw [← nmB_inj (h y hy) hx e]; exact hy
  · exact List.mem_map_of_mem
set_option maxRecDepth 100000 in
theorem met_look {w : World} {bm : Nat} {met : List (List Int)} (h : MetMap w bm met) {x : List Int} (hx : ∀ z ∈ x, dig z) (hl : x.length ≤ 1000) :
    (Instr.lookup 40 (.map (some bm)) (.string (strOfNums x)) false).run Tryz.prog w = .ok (.bool (decide (x ∈ met))) w := by
  obtain ⟨hd, n, D, ho, _, _, hD⟩ := h
  have hs : (strOfNums x).size ≤ maxLen := by
    have : (strOfNums x).size = x.length := by
      show (strOfNums x).data.size = _
      rw [← Array.length_toList, strOfNums_data, List.length_map]
    unfold maxLen; omega
  obtain ⟨c, hrun, hat⟩ := lookup_bool ho strKey4 Tryz.underlying40 Tryz.underlying4 (Tryz.zeroValue4 w) (WideMaps.keyOf_string_mk Tryz.underlying9 hs)
  rw [hD, strOfNums_data] at hat
  have e : c = decide (nmB x ∈ met.map nmB) := by
    injection hat with hat
    injection hat with hat
    exact hat.symm
  rw [hrun, e, met_mem hd hx]
set_option maxRecDepth 100000 in
theorem met_put {w : World} {bm : Nat} {met : List (List Int)} (h : MetMap w bm met) {x : List Int} (hx : ∀ z ∈ x, dig z) (hl : x.length ≤ 1000) (hn : met.length < maxLen) :
    ∃ w', (Instr.mapUpdate 40 (.map (some bm)) (.string (strOfNums x)) (.bool true)).run Tryz.prog w = .ok () w' ∧ MetMap w' bm (met ++ [x]) ∧ w.grownBy w' (some bm) := by
  obtain ⟨hd, n, D, ho, hle, hm, hD⟩ := h
  have hs : (strOfNums x).size ≤ maxLen := by
    have : (strOfNums x).size = x.length := by
      show (strOfNums x).data.size = _
      rw [← Array.length_toList, strOfNums_data, List.length_map]
    unfold maxLen; omega
  obtain ⟨w', hrun, ho', hg⟩ := ho.update strKey4 Tryz.underlying40 (by omega) (WideMaps.keyOf_string_mk Tryz.underlying9 hs) (plainElem_bool Tryz.underlying4 true)
  refine ⟨w', hrun, ⟨?_, n + 1, _, ho', by simp; omega, hm.put _ _, fun k => ?_⟩, hg⟩
  · intro y hy
    rcases List.mem_append.1 hy with h | h
    · exact hd y h
    · rw [List.mem_singleton] at h; subst h; exact hx
  · rw [strOfNums_data]
    by_cases e : k = nmB x
    · subst e
      rw [show (x.map fun n => UInt8.ofNat n.toNat) = nmB x from rfl, Maps.atKey_put_same (k := .string (nmB x)) hm trivial]
      rw [decide_eq_true (by simp)]
    · have hne : (Lit.string k) ≠ .string (nmB x) := fun q => e (by injection q)
      rw [show (x.map fun n => UInt8.ofNat n.toNat) = nmB x from rfl, Maps.atKey_put_other hne, hD]
      congr 2
      simp [e]
theorem met_kept {w w' : World} {bm : Nat} {met : List (List Int)} {row : Option Nat} (h : MetMap w bm met) (hg : w.grownBy w' row) (hne : some bm ≠ row) : MetMap w' bm met := by
  obtain ⟨hd, n, D, ho, r⟩ := h
  exact ⟨hd, n, D, ho.kept hg hne, r⟩
theorem met_block {w w' : World} {bm : Nat} {met : List (List Int)} (h : MetMap w bm met) (hb : w'.heap[bm]? = w.heap[bm]?) : MetMap w' bm met := by
  obtain ⟨hd, n, D, ⟨es, cl, h1, h2⟩, r⟩ := h
  exact ⟨hd, n, D, ⟨es, cl, hb.trans h1, h2⟩, r⟩
theorem met_lt {w : World} {bm : Nat} {met : List (List Int)} (h : MetMap w bm met) : bm < w.heap.size := by
  obtain ⟨hd, n, D, ho, r⟩ := h
  exact ho.lt

/-- the blocks that are not stored into -/
def Qx (bm ga : Nat) (v : Value) (b : Nat) : Prop := b ≠ bm ∧ b ≠ ga ∧ v.ownBlock ≠ some b
/-- those of them that are new -/
def Qn (B bm ga : Nat) (v : Value) (b : Nat) : Prop := B ≤ b ∧ Qx bm ga v b
structure Mut (B gm ga gl gf bm : Nat) (acc : List (List Int) × List (List Int)) (v : Value) (w : World) : Prop where
  map : MetMap w bm acc.1
  cell : w.cell? ⟨ga, 0, none⟩ = some v
  free : w.frozen? ⟨ga, 0, none⟩ = false
  own : ∃ vs, w.ownsRow B 23 1 v acc.2.length vs ∧ Flat (repSlice repInt) (Qn B bm ga v) w vs acc.2
  sep : ∀ b, v.ownBlock = some b → b ≠ gm ∧ b ≠ gl ∧ b ≠ gf ∧ b ≠ ga ∧ b ≠ bm
structure Env (gm ga gl gf bm l : Nat) (w : World) : Prop where
  cm : w.cell? ⟨gm, 0, none⟩ = some (.map (some bm))
  cf : w.cell? ⟨gf, 0, none⟩ = some (.func (.func 13) #[] #[.pointer (some ⟨gm, 0, none⟩), .pointer (some ⟨ga, 0, none⟩), .pointer (some ⟨gl, 0, none⟩), .pointer (some ⟨gf, 0, none⟩)])
  cl : ∃ tq td, w.cell? ⟨gl, 2, none⟩ = some (.slice tq l td)
  ne : gm ≠ bm ∧ gm ≠ ga ∧ gf ≠ bm ∧ gf ≠ ga ∧ gl ≠ bm ∧ gl ≠ ga ∧ ga ≠ bm
/-- from one world to a later one: what is not stored into stands, and what is stored into lies where it lay, or is new -/
structure Adv (B bm ga : Nat) (w : World) (v : Value) (w' : World) (v' : Value) : Prop where
  kept : Kept (fun b => b < w.heap.size ∧ Qx bm ga v b) w w'
  own : v'.ownBlock = v.ownBlock ∨ ∀ b, v'.ownBlock = some b → w.heap.size ≤ b
  below : Below B w w'
section
variable {B gm ga gl gf bm l : Nat} {acc : List (List Int) × List (List Int)} {v v' v2 : Value} {w w' w2 : World}
theorem adv_q (h : Adv B bm ga w v w' v') {b : Nat} (hb : b < w.heap.size) (hq : Qx bm ga v b) : Qx bm ga v' b := by
  refine ⟨hq.1, hq.2.1, ?_⟩
  rcases h.own with e | e
  · rw [e]; exact hq.2.2
  · intro q; have := e b q; omega
theorem adv_refl (B bm ga : Nat) (w : World) (v : Value) : Adv B bm ga w v w v := ⟨kept_refl _ _, .inl rfl, Below.refl _ _⟩
theorem adv_trans (h : Adv B bm ga w v w' v') (k : Adv B bm ga w' v' w2 v2) : Adv B bm ga w v w2 v2 := by
  have hs := h.below.size
  refine ⟨fun b o x hq hc => k.kept b o x ⟨by omega, adv_q h hq.1 hq.2⟩ (h.kept b o x hq hc), ?_, h.below.trans k.below⟩
  rcases k.own with e | e
  · rw [e]; exact h.own
  · exact .inr fun b q => by have := e b q; omega
theorem adv_B (hb : Below w.heap.size w w') (hB : B ≤ w.heap.size) : Adv B bm ga w v w' v := ⟨kept_B hb, .inl rfl, hb.mono hB⟩
theorem mut_B (hb : Below w.heap.size w w') (M : Mut B gm ga gl gf bm acc v w) : Mut B gm ga gl gf bm acc v w' := by
  obtain ⟨vs, h1, h2⟩ := M.own
  have hlt := lt_of_cell M.cell
  exact ⟨met_block M.map (hb.block bm (met_lt M.map)), cellB hb M.cell, (hb.frozen (p := ⟨ga, 0, none⟩) hlt).trans M.free, ⟨vs, own_below h1 hb, flat_keep (kept_B hb) h2⟩, M.sep⟩
theorem env_q (E : Env gm ga gl gf bm l w) (M : Mut B gm ga gl gf bm acc v w) : (gm < w.heap.size ∧ Qx bm ga v gm) ∧ (gl < w.heap.size ∧ Qx bm ga v gl) ∧ (gf < w.heap.size ∧ Qx bm ga v gf) := by
  obtain ⟨n1, n2, n3, n4, n5, n6, _⟩ := E.ne
  obtain ⟨tq, td, hcl⟩ := E.cl
  exact ⟨⟨lt_of_cell E.cm, n1, n2, fun e => (M.sep _ e).1 rfl⟩, ⟨lt_of_cell hcl, n5, n6, fun e => (M.sep _ e).2.1 rfl⟩, ⟨lt_of_cell E.cf, n3, n4, fun e => (M.sep _ e).2.2.1 rfl⟩⟩
theorem env_adv (E : Env gm ga gl gf bm l w) (M : Mut B gm ga gl gf bm acc v w) (h : Adv B bm ga w v w' v') : Env gm ga gl gf bm l w' := by
  obtain ⟨q1, q2, q3⟩ := env_q E M
  obtain ⟨tq, td, hcl⟩ := E.cl
  exact ⟨h.kept _ _ _ q1 E.cm, h.kept _ _ _ q3 E.cf, ⟨tq, td, h.kept _ _ _ q2 hcl⟩, E.ne⟩
theorem env_B (hb : Below w.heap.size w w') (E : Env gm ga gl gf bm l w) : Env gm ga gl gf bm l w' := by
  obtain ⟨tq, td, hcl⟩ := E.cl
  exact ⟨cellB hb E.cm, cellB hb E.cf, ⟨tq, td, cellB hb hcl⟩, E.ne⟩
theorem stQ_adv {a a' q : Option Addr} {n n' l2 : Nat} {p : Nat → Option Addr} {pl pc : Nat → Nat} {r : Nat → Option Addr} {rl rc : Nat → Nat} {s : St} (h : Adv B bm ga w v w' v') (S : StQ (Qx bm ga v) w a a' q n n' l2 p pl pc r rl rc s) : StQ (Qx bm ga v') w' a a' q n n' l2 p pl pc r rl rc s :=
  stQ_mono (fun _ hb => adv_q h hb.1 hb.2) (stQ_keep h.kept (stQ_mono (fun _ hb => ⟨hb.2, hb.1⟩) (stQ_und S)))
/-- a name more -/
theorem mut_met (M : Mut B gm ga gl gf bm acc v w) (hne : ga ≠ bm) {met : List (List Int)} (hm : MetMap w' bm met) (hg : w.grownBy w' (some bm)) : Mut B gm ga gl gf bm (met, acc.2) v w' := by
  obtain ⟨vs, h1, h2⟩ := M.own
  have hc := grown_cell hg (lt_of_cell M.cell) (fun e => hne (Option.some.inj e).symm) 0
  refine ⟨hm, hc.1.trans M.cell, hc.2.trans M.free, ⟨vs, h1.kept hg ?_, flat_keep (kept_grown hg (fun b hb e => hb.2.1 (Option.some.inj e).symm)) h2⟩, M.sep⟩
  cases hv : v.ownBlock with
  | none => exact .inl rfl
  | some b => exact .inr fun e => (M.sep b hv).2.2.2.2 (Option.some.inj e)
theorem adv_met (M : Mut B gm ga gl gf bm acc v w) (hB : B ≤ bm) (hg : w.grownBy w' (some bm)) : Adv B bm ga w v w' v :=
  ⟨kept_grown hg (fun b hb e => hb.2.1 (Option.some.inj e).symm), .inl rfl, (Below.refl B w).grown hg (by have := met_lt M.map; omega) (fun k e => by cases e; exact hB)⟩
theorem flat_und {α : Type} {r : Rep α} {Q : Nat → Prop} {w : World} : ∀ {ys : List α} {cs : List Value}, Flat r Q w cs ys → Flat r (fun b => Q b ∧ b < w.heap.size) w cs ys
  | [], _, h => h
  | _ :: _, _, ⟨c, d, e, h1, h2⟩ => ⟨c, d, e, r.und h1, flat_und h2⟩
theorem own_low {x : Value} {k : Nat} {vs : List Value} (h : w.ownsRow B 23 1 x k vs) {b : Nat} (hb : x.ownBlock = some b) : B ≤ b := (h.lt b hb).1
/-- a row more -/
theorem mut_row (M : Mut B gm ga gl gf bm acc v w) (E : Env gm ga gl gf bm l w) (hBa : B ≤ ga) (hBw : B ≤ w.heap.size) {vs : List Value} (h1 : w.ownsRow B 23 1 v acc.2.length vs) (h2 : Flat (repSlice repInt) (Qn B bm ga v) w vs acc.2) {u : Value} {o : List Int} (hu : (repSlice repInt).R (Qn B bm ga v) w [u] o)
    (hown : w'.ownsRow B 23 1 v' (acc.2.length + 1) (vs ++ [u])) (hg : w.grownBy w' v.ownBlock) (ho : v'.ownBlock = v.ownBlock ∨ v'.ownBlock = some w.heap.size) :
    Mut B gm ga gl gf bm (acc.1, acc.2 ++ [o]) v' (w'.setCell ⟨ga, 0, none⟩ v') ∧ Adv B bm ga w v (w'.setCell ⟨ga, 0, none⟩ v') v' := by
  obtain ⟨q1, q2, q3⟩ := env_q E M
  have hga : ga < w.heap.size := lt_of_cell M.cell
  have hbm := met_lt M.map
  have hne := E.ne.2.2.2.2.2.2
  have hoga : v.ownBlock ≠ some ga := fun e => (M.sep _ e).2.2.2.1 rfl
  have hobm : v.ownBlock ≠ some bm := fun e => (M.sep _ e).2.2.2.2 rfl
  have hc := grown_cell hg hga hoga 0
  have V : VarN w' ga [v] := fun i x hi => by
    cases i with
    | zero => simp at hi; subst hi; exact ⟨hc.1.trans M.cell, hc.2.trans M.free⟩
    | succ i => simp at hi
  have V2 := varN_set V 0 (by simp) v'
  have hv2 := V2 0 v' rfl
  have hv'ga : v'.ownBlock ≠ some ga := by
    rcases ho with e | e
    · rw [e]; exact hoga
    · rw [e]; intro q; injection q with q; omega
  have A : Adv B bm ga w v (w'.setCell ⟨ga, 0, none⟩ v') v' := by
    refine ⟨kept_trans (kept_grown hg (fun b hb e => hb.2.2.2 e)) (kept_set w' ⟨ga, 0, none⟩ v' (fun b hb => hb.2.2.1)), ho.imp id (fun e b q => by rw [e] at q; injection q with q; omega), ?_⟩
    exact ((Below.refl B w).grown hg hBw (fun k e => own_low h1 e)).setCell (p := ⟨ga, 0, none⟩) hBa _
  refine ⟨⟨?_, hv2.1, hv2.2, ⟨vs ++ [u], ?_, ?_⟩, ?_⟩, A⟩
  · refine met_block (met_block M.map (hg.block bm hbm (fun e => hobm e.symm))) ?_
    exact Below.heap_setCell _ _ _ _ (Ne.symm hne)
  · rw [List.length_append, List.length_singleton]
    exact own_set hown ⟨ga, 0, none⟩ hv'ga v'
  · have hK : Kept (fun b => Qn B bm ga v b ∧ b < w.heap.size) w (w'.setCell ⟨ga, 0, none⟩ v') := fun b x y hq h => A.kept b x y ⟨hq.2, hq.1.2⟩ h
    have hQ : ∀ b, Qn B bm ga v b ∧ b < w.heap.size → Qn B bm ga v' b := fun b hb => ⟨hb.1.1, adv_q A hb.2 hb.1.2⟩
    have f1 := flat_mono hQ (flat_keep hK (flat_und h2))
    have f2 := (repSlice repInt).mono hQ ((repSlice repInt).keep hK ((repSlice repInt).und hu))
    exact flat_snoc f2 f1
  · intro b hb
    rcases ho with e | e
    · exact M.sep b (by rw [← e]; exact hb)
    · rw [e] at hb
      injection hb with hb
      subst hb
      exact ⟨by omega, by omega, by omega, by omega, by omega⟩
end
/-- append to a row of one's own, within a region that draws its order: the row lies where it lay, or in a new block -/
theorem step_append_far {P : Program} {ops : Array Oper} {o : Oper} {a : Act} {w : World} {K : Act → World → Prop} {Q : Exit → Act → World → Prop} {E : Prop}
    (hg : o.guard = none) (s x : Operand) (t : TypeId) (hop : o.op = Op.call { callee := Callee.builtin Builtin.append, args := #[s, x], argTypes := #[t, t] })
    (base : Nat) (e : TypeId) (i : TypeInfo) (z : Value) (size bytes : Nat) (h1 : P.underlying t = some (.slice e)) (h2 : P.info? e = some i) (h3 : i.zero = some z) (h4 : i.size = size) (h5 : i.bytes = bytes) (h6 : z.cells.size = size) (h7 : 0 < size)
    (v : Value) (n : Nat) (xs : List Value) (hs : a.eval s = v) (hown : w.ownsRow base e size v n xs)
    (ad : Addr) (m c : Nat) (news : List Value) (hx : a.eval x = .slice (some ad) m c) (hn : news.length = m * size) (hc : ∀ j u, news[j]? = some u → w.cell? (ad.add j) = some u) (h1c : ∀ u ∈ news, u.oneCell' = true)
    (b1 : n + m ≤ maxLen) (b2 : (n + m) * bytes ≤ 140737488355328) (hbase : base ≤ w.heap.size)
    (hK : ∀ v' w', w'.ownsRow base e size v' (n + m) (xs ++ news) → w.grownBy w' v.ownBlock → (v'.ownBlock = v.ownBlock ∨ v'.ownBlock = some w.heap.size) → K (a.put o.dst v') w') :
    if Region.wanted o (yielded ops a.tmps) = true then Oper.wp P o a w K Q else E := by
  have hw : Region.wanted o (yielded ops a.tmps) = true := by simp [Region.wanted, hg]
  rw [if_pos hw]
  obtain ⟨v', w', hrun, r1, r2, _, r4⟩ := run_append_own_at (P := P) w base t o.type e i z size bytes h1 h2 h3 h4 h5 h6 h7 v n xs hown ad m c news hn hc h1c b1 b2 hbase
  unfold Oper.wp
  simp [execOp, hop, resolve, invoke, builtin, hs, hx, hrun, Result.andThen]
  exact hK v' w' r1 r2 r4
end Go.Proofs.YtiebaeaomgpicaaGreat
