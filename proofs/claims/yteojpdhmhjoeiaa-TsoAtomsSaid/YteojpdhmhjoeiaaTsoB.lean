/- Contracts of package tso: slices.Clone of puts at every buffer, copied. -/
import Derived.Test.YteojpdhmhjoeiaaTsoA
import Derived.Test.YteojpdhmhjoeiaaBufC
import Derived.Deep.RegionHeld3
import Derived.Deep.DeepCutAuto
namespace Go.Proofs.Yteojpdhmhjoeiaa
open Go.ChangeShapes Go.WideShapes Go.ChangeAt Go.RowKit

/-! rows of puts and of buffers with a word Q on their blocks -/
def PlQ (Q : Nat → Prop) (w : World) (a : Option Addr) (n : Nat) (ps : List (Int × Int)) : Prop := ps.length = n ∧ (n = 0 ∨ ∃ b o, a = some ⟨b, o, none⟩ ∧ Q b ∧ PRow w b o ps)
theorem PlQ.pl {Q : Nat → Prop} {w : World} {a : Option Addr} {n : Nat} {ps : List (Int × Int)} (h : PlQ Q w a n ps) : Pl w a n ps := ⟨h.1, h.2.imp id fun ⟨b, o, e, _, r⟩ => ⟨b, o, e, r⟩⟩
theorem plQ_F {Q : Nat → Prop} {F : Nat} {w : World} {a : Option Addr} {n : Nat} {ps : List (Int × Int)} (hQ : ∀ b, F ≤ b → b < w.heap.size → Q b) (h : PlF F w a n ps) : PlQ Q w a n ps := by
  refine ⟨h.1, ?_⟩
  by_cases h0 : n = 0
  · exact .inl h0
  · obtain ⟨b, o, e, hf, r⟩ := h.2.resolve_left h0
    have := cell_lt (r 0 (by have := h.1; omega)).1
    exact .inr ⟨b, o, e, hQ b hf this, r⟩
theorem plQ_old {Q : Nat → Prop} {w : World} {a : Option Addr} {n : Nat} {ps : List (Int × Int)} (hQ : ∀ b, b < w.heap.size → Q b) (h : Pl w a n ps) : PlQ Q w a n ps := by
  refine ⟨h.1, ?_⟩
  by_cases h0 : n = 0
  · exact .inl h0
  · obtain ⟨b, o, e, r⟩ := h.2.resolve_left h0
    have := cell_lt (r 0 (by have := h.1; omega)).1
    exact .inr ⟨b, o, e, hQ b this, r⟩
theorem plQ_mono {Q Q' : Nat → Prop} {w : World} {a : Option Addr} {n : Nat} {ps : List (Int × Int)} (hQ : ∀ b, Q b → Q' b) (h : PlQ Q w a n ps) : PlQ Q' w a n ps := ⟨h.1, h.2.imp id fun ⟨b, o, e, hf, r⟩ => ⟨b, o, e, hQ b hf, r⟩⟩
theorem plQ_keep {Q : Nat → Prop} {w w' : World} {a : Option Addr} {n : Nat} {ps : List (Int × Int)} (hk : ∀ (b o : Nat) (v : Value), Q b → w.cell? ⟨b, o, none⟩ = some v → w'.cell? ⟨b, o, none⟩ = some v) (h : PlQ Q w a n ps) : PlQ Q w' a n ps :=
  ⟨h.1, h.2.imp id fun ⟨b, o, e, hq, r⟩ => ⟨b, o, e, hq, fun i hi => ⟨hk _ _ _ hq (r i hi).1, hk _ _ _ hq (r i hi).2⟩⟩⟩
theorem slP_keep {Q : Nat → Prop} {w w' : World} {a : Option Addr} {n : Nat} {zs : List Int} (hk : ∀ (b o : Nat) (v : Value), Q b → w.cell? ⟨b, o, none⟩ = some v → w'.cell? ⟨b, o, none⟩ = some v) (h : SlP Q w a n zs) : SlP Q w' a n zs :=
  ⟨h.1, h.2.imp id fun ⟨b, o, e, hq, r⟩ => ⟨b, o, e, hq, fun i hi => hk _ _ _ hq (r i hi)⟩⟩
theorem plQB {Q : Nat → Prop} {w w' : World} {a : Option Addr} {n : Nat} {ps : List (Int × Int)} (hb : Below w.heap.size w w') (h : PlQ Q w a n ps) : PlQ Q w' a n ps := plQ_keep (fun _ _ _ _ hv => cellB hb hv) h
theorem keep_set {w : World} {p : Addr} {x : Value} {Q : Nat → Prop} (hp : ∀ b, Q b → b ≠ p.block) : ∀ (b o : Nat) (v : Value), Q b → w.cell? ⟨b, o, none⟩ = some v → (w.setCell p x).cell? ⟨b, o, none⟩ = some v := by
  intro b o v hq hv
  rw [World.cell?_setCell_other]
  · exact hv
  · intro e; exact hp b hq (by rw [e])
def BCellQ (Q : Nat → Prop) (w : World) (a : Addr) (b : List (Int × Int)) : Prop := ∃ q c, w.cell? a = some (.slice q b.length c) ∧ CapOk q b.length c ∧ PlQ Q w q b.length b
theorem BCellQ.cell {Q : Nat → Prop} {w : World} {a : Addr} {b : List (Int × Int)} (h : BCellQ Q w a b) : BCell w a b := by
  obtain ⟨q, c, h1, h2, h3⟩ := h
  exact ⟨q, c, h1, h2, h3.pl⟩
theorem bcellQ_keep {Q : Nat → Prop} {w w' : World} {a : Addr} {b : List (Int × Int)} (ha : ∀ v, w.cell? a = some v → w'.cell? a = some v) (hk : ∀ (b o : Nat) (v : Value), Q b → w.cell? ⟨b, o, none⟩ = some v → w'.cell? ⟨b, o, none⟩ = some v) (h : BCellQ Q w a b) : BCellQ Q w' a b := by
  obtain ⟨q, c, h1, h2, h3⟩ := h
  exact ⟨q, c, ha _ h1, h2, plQ_keep hk h3⟩
theorem bcellQ_mono {Q Q' : Nat → Prop} (hQ : ∀ b, Q b → Q' b) {w : World} {a : Addr} {b : List (Int × Int)} (h : BCellQ Q w a b) : BCellQ Q' w a b := by
  obtain ⟨q, c, h1, h2, h3⟩ := h
  exact ⟨q, c, h1, h2, plQ_mono hQ h3⟩
/-- a slice of buffers, of all blocks of which Q holds -/
def BlP (Q : Nat → Prop) (w : World) (a : Option Addr) (n : Nat) (bs : List (List (Int × Int))) : Prop := bs.length = n ∧ (n = 0 ∨ ∃ b o, a = some ⟨b, o, none⟩ ∧ Q b ∧ ∀ i, i < bs.length → BCellQ Q w ⟨b, o + i, none⟩ (bs.getD i []))
theorem BlP.bl {Q : Nat → Prop} {w : World} {a : Option Addr} {n : Nat} {bs : List (List (Int × Int))} (h : BlP Q w a n bs) : Bl w a n bs := ⟨h.1, h.2.imp id fun ⟨b, o, e, _, r⟩ => ⟨b, o, e, fun i hi => (r i hi).cell⟩⟩
theorem blP_nil (Q : Nat → Prop) (w : World) : BlP Q w none 0 [] := ⟨rfl, .inl rfl⟩
theorem blP_keep {Q : Nat → Prop} {w w' : World} {a : Option Addr} {n : Nat} {bs : List (List (Int × Int))} (hk : ∀ (b o : Nat) (v : Value), Q b → w.cell? ⟨b, o, none⟩ = some v → w'.cell? ⟨b, o, none⟩ = some v) (h : BlP Q w a n bs) : BlP Q w' a n bs :=
  ⟨h.1, h.2.imp id fun ⟨b, o, e, hq, r⟩ => ⟨b, o, e, hq, fun i hi => bcellQ_keep (fun _ hv => hk _ _ _ hq hv) hk (r i hi)⟩⟩
theorem blP_mono {Q Q' : Nat → Prop} (hQ : ∀ b, Q b → Q' b) {w : World} {a : Option Addr} {n : Nat} {bs : List (List (Int × Int))} (h : BlP Q w a n bs) : BlP Q' w a n bs :=
  ⟨h.1, h.2.imp id fun ⟨b, o, e, hq, r⟩ => ⟨b, o, e, hQ b hq, fun i hi => bcellQ_mono hQ (r i hi)⟩⟩
theorem blPB {Q : Nat → Prop} {w w' : World} {a : Option Addr} {n : Nat} {bs : List (List (Int × Int))} (hb : Below w.heap.size w w') (h : BlP Q w a n bs) : BlP Q w' a n bs := blP_keep (fun _ _ _ _ hv => cellB hb hv) h
/-- a row of l buffers of one's own, at block g; those from k on are still nil; no block of them lies below F -/
def BOwn (F g k l : Nat) (bs : List (List (Int × Int))) (w : World) : Prop := bs.length = l ∧ F ≤ g ∧ g < w.heap.size ∧ (∀ i, i < k → BCellQ (fun b => F ≤ b ∧ b ≠ g) w ⟨g, i, none⟩ (bs.getD i [])) ∧ (∀ i, k ≤ i → i < l → w.cell? ⟨g, i, none⟩ = some (.slice none 0 0)) ∧ ∀ i, i < l → w.frozen? ⟨g, i, none⟩ = false
theorem bown_cell {F g k l : Nat} {bs : List (List (Int × Int))} {w : World} (h : BOwn F g k l bs w) {i : Nat} (hi : i < l) : (w.cell? ⟨g, i, none⟩).isSome = true := by
  obtain ⟨h1, h2, h3, h4, h5, h6⟩ := h
  by_cases e : i < k
  · obtain ⟨q, c, e, _⟩ := h4 i e; rw [e]; rfl
  · rw [h5 i (by omega) hi]; rfl
theorem bown_B {F g k l : Nat} {bs : List (List (Int × Int))} {w w' : World} (hb : Below w.heap.size w w') (h : BOwn F g k l bs w) : BOwn F g k l bs w' := by
  obtain ⟨h1, h2, h3, h4, h5, h6⟩ := h
  have := hb.size
  exact ⟨h1, h2, by omega, fun i hi => bcellQ_keep (fun _ hv => cellB hb hv) (fun _ _ _ _ hv => cellB hb hv) (h4 i hi), fun i hk hi => cellB hb (h5 i hk hi), fun i hi => (hb.frozen (p := ⟨g, i, none⟩) h3).trans (h6 i hi)⟩
theorem bown_set {F g k l : Nat} {bs : List (List (Int × Int))} {w : World} (h : BOwn F g k l bs w) (j : Nat) (hj : j < l) (hjk : j ≤ k) (b : List (Int × Int)) {p : Option Addr} {m c : Nat} (hp : PlQ (fun b => F ≤ b ∧ b ≠ g) w p m b) (hc : CapOk p m c) (k' : Nat) (hk' : k' = if j = k then k + 1 else k) (bs' : List (List (Int × Int))) (hbs : bs'.length = l) (hb1 : bs'.getD j [] = b) (hb2 : ∀ i, i < k → i ≠ j → bs'.getD i [] = bs.getD i []) :
    BOwn F g k' l bs' (w.setCell ⟨g, j, none⟩ (.slice p m c)) := by
  have hs := bown_cell h hj
  obtain ⟨h1, h2, h3, h4, h5, h6⟩ := h
  have hkp : ∀ (b o : Nat) (v : Value), (F ≤ b ∧ b ≠ g) → w.cell? ⟨b, o, none⟩ = some v → (w.setCell ⟨g, j, none⟩ (.slice p m c)).cell? ⟨b, o, none⟩ = some v := keep_set (Q := fun b => F ≤ b ∧ b ≠ g) (fun b hb => hb.2)
  have hne : ∀ i, i ≠ j → ∀ v, w.cell? ⟨g, i, none⟩ = some v → (w.setCell ⟨g, j, none⟩ (.slice p m c)).cell? ⟨g, i, none⟩ = some v := by
    intro i hi v hv
    rw [World.cell?_setCell_other]
    · exact hv
    · intro e; exact hi (congrArg Addr.off e).symm
  refine ⟨hbs, h2, by simpa using h3, fun i hi => ?_, fun i hk hi => ?_, fun i hi => by rw [World.frozen?_setCell]; exact h6 i hi⟩
  · by_cases e : i = j
    · subst e
      obtain rfl : b.length = m := hp.1
      rw [hb1]
      exact ⟨p, c, World.cell?_setCell_same' _ _ _ hs, hc, plQ_keep hkp hp⟩
    · have hik : i < k := by rw [hk'] at hi; split at hi <;> omega
      rw [hb2 i hik e]
      exact bcellQ_keep (hne i e) hkp (h4 i hik)
  · refine hne i ?_ _ (h5 i ?_ hi)
    · rw [hk'] at hk; split at hk <;> omega
    · rw [hk'] at hk; split at hk <;> omega
theorem bown_bl {F g l : Nat} {bs : List (List (Int × Int))} {w : World} (h : BOwn F g l l bs w) : BlP (fun b => F ≤ b) w (some ⟨g, 0, none⟩) l bs := by
  obtain ⟨h1, h2, h3, h4, h5, h6⟩ := h
  refine ⟨h1, .inr ⟨g, 0, rfl, h2, fun i hi => ?_⟩⟩
  rw [Nat.zero_add]
  exact bcellQ_mono (fun b hb => hb.1) (h4 i (by omega))

/-! making -/
theorem Try.info54 : (Try.prog.info? 54).map (fun i => (i.zero, i.size, i.bytes)) = some (some (.slice none 0 0), 1, 24) := by kernel_rfl
def Nb (l : Nat) : Array Value := madeCells #[.slice none 0 0] l
theorem Nb_get (l i : Nat) (h : i < l) : (Nb l)[i]? = some (.slice none 0 0) := by
  unfold Nb madeCells
  simp [h, Nat.mod_one]
theorem make_bufs (n : Nat) (h : n ≤ 1000) (w : World) : (Instr.makeSlice 23 (.int .i64 n) (.int .i64 n)).run Try.prog w = .ok (.slice (some ⟨w.heap.size, 0, none⟩) n n) (w.alloc (.cells (Nb n) 54)) := by
  obtain ⟨i0, hi, hz0, hz1, hz2⟩ := info_parts Try.info54
  have := run_make (P := Try.prog) w 23 54 i0 (.slice none 0 0) Try.underlying23 hi hz0 .i64 .i64 n n (by omega) (by omega) (by rw [hz2]; omega) (by omega)
  rw [this]
  simp [hz1, Nb, Value.cells]
theorem bown_new (F l : Nat) (bs : List (List (Int × Int))) (w : World) (hl : bs.length = l) (hF : F ≤ w.heap.size) : BOwn F w.heap.size 0 l bs (w.alloc (.cells (Nb l) 54)) :=
  ⟨hl, hF, by simp, fun i hi => by omega, fun i _ hi => cell_new _ _ _ rfl (Nb_get l i hi), fun i hi => frozen_new _ _ rfl⟩

set_option maxHeartbeats 2000000 in
theorem cloneP_any (a : Option Addr) (n c : Nat) (ps : List (Int × Int)) (w : World) (S : Pl w a n ps) (hcap : CapOk a n c) (hn : n ≤ 1000) :
    Calls Try.prog 53 #[.slice a n c] w (ClonePPost ps w) := by
  have Hn := Lib.hid S.1
  cases a with
  | none =>
    obtain rfl : c = 0 := hcap.2.2 rfl
    obtain rfl : n = 0 := by have := hcap.1; omega
    obtain rfl : ps = [] := List.eq_nil_of_length_eq_zero Hn.out
    have q := fun w => eql_nil 54 69 none 0 0 Try.underlying54 w
    clear hcap
    go_enter Try.func53, Try.ntmps53
    go_wp2
    go_ret
    exact ⟨none, 0, rfl, capOk_nil, plF_nil _ _, Below.refl _ _⟩
  | some p =>
    have HC : Hid (∀ W, Below w.heap.size w W → ∀ j u, (pcells ps)[j]? = some u → W.cell? (p.add j) = some u) := by
      intro W hW j u hu
      have hj : j < ps.length * 2 := by rw [← pcells_length]; exact (List.getElem?_eq_some_iff.1 hu).1
      obtain ⟨b, o, e, R⟩ := S.2.resolve_left (by rw [← Hn.out]; omega)
      cases e
      rw [add_none]
      exact pcells_cell (prowB hW R) j u hu
    obtain ⟨i0, hi, hz0, hz1, hz2⟩ := info_parts Try.info69
    have HI := Lib.hid (And.intro hi (And.intro hz0 (And.intro hz1 hz2)))
    have q := fun w => eql_nil 54 69 (some p) n c Try.underlying54 w
    have h1 := hcap.1
    have h2 := hcap.2.1
    clear hi hz0 hz1 hz2 hcap S
    go_enter Try.func53, Try.ntmps53
    go_wp2_with (at_builtin; refine wpList_append_own _ rfl _ _ 54 rfl w.heap.size 69 i0 (.agg #[.int .i64 0, .int .i64 0]) 2 16 Try.underlying54 HI.out.1 HI.out.2.1 HI.out.2.2.1 HI.out.2.2.2 rfl (by decide) _ 0 [] rfl (World.ownsRow_made w #[] 0 (Nat.le_refl _) (by decide) (by simp)) p n c (pcells ps) rfl ?c1 ?c2 ?c3 ?c4 ?c5 ?c6 ?_)
    case c1 => rw [pcells_length, Hn.out]
    case c2 => exact HC.out _ (by go_grown)
    case c3 => exact pcells_one _
    case c4 => unfold maxLen; omega
    case c5 => omega
    case c6 => simp
    intro v' w1 hown' hgrow _
    have hb' := ((Below.refl w.heap.size w).alloc (Nat.le_refl _) (.cells #[] 69)).grown hgrow (by simp) (fun r hr => by cases hr; simp)
    have HO := Lib.hid hown'
    have HB := Lib.hid hb'
    clear hown' hb' hgrow
    go_wp2
    go_ret
    exact clonePPost_mk Hn.out HO.out HB.out

theorem bown_out {F g k l : Nat} {bs : List (List (Int × Int))} {w : World} (h : BOwn F g k l bs w) {p : Addr} (hp : p.block < F) (v : Value) : BOwn F g k l bs (w.setCell p v) := by
  obtain ⟨h1, h2, h3, h4, h5, h6⟩ := h
  have hk : ∀ (b o : Nat) (u : Value), F ≤ b → w.cell? ⟨b, o, none⟩ = some u → (w.setCell p v).cell? ⟨b, o, none⟩ = some u := keep_set (Q := fun b => F ≤ b) (fun b hb => by omega)
  exact ⟨h1, h2, by simpa using h3, fun i hi => bcellQ_keep (hk g i · h2) (fun b o u hq => hk b o u hq.1) (h4 i hi), fun i hi hl => hk _ _ _ h2 (h5 i hi hl), fun i hi => by rw [World.frozen?_setCell]; exact h6 i hi⟩
theorem bown_mono {F F' g k l : Nat} {bs : List (List (Int × Int))} {w : World} (hF : F' ≤ F) (h : BOwn F g k l bs w) : BOwn F' g k l bs w := by
  obtain ⟨h1, h2, h3, h4, h5, h6⟩ := h
  exact ⟨h1, by omega, h3, fun i hi => bcellQ_mono (fun b hb => ⟨by omega, hb.2⟩) (h4 i hi), h5, h6⟩
theorem slF_mono3 {F F' : Nat} {w : World} {a : Option Addr} {n : Nat} {zs : List Int} (hF : F' ≤ F) (h : SlF F w a n zs) : SlF F' w a n zs := ⟨h.1, h.2.imp id fun ⟨b, o, e, hq, r⟩ => ⟨b, o, e, by omega, r⟩⟩
theorem set4 {w : World} {g : Nat} (x y z u : Value) (h0 : (w.cell? ⟨g, 0, none⟩).isSome = true) (h1 : (w.cell? ⟨g, 1, none⟩).isSome = true) (h2 : (w.cell? ⟨g, 2, none⟩).isSome = true) (h3 : (w.cell? ⟨g, 3, none⟩).isSome = true) :
    ((((w.setCell ⟨g, 0, none⟩ x).setCell ⟨g, 1, none⟩ y).setCell ⟨g, 2, none⟩ z).setCell ⟨g, 3, none⟩ u).cell? ⟨g, 0, none⟩ = some x ∧ ((((w.setCell ⟨g, 0, none⟩ x).setCell ⟨g, 1, none⟩ y).setCell ⟨g, 2, none⟩ z).setCell ⟨g, 3, none⟩ u).cell? ⟨g, 1, none⟩ = some y ∧
    ((((w.setCell ⟨g, 0, none⟩ x).setCell ⟨g, 1, none⟩ y).setCell ⟨g, 2, none⟩ z).setCell ⟨g, 3, none⟩ u).cell? ⟨g, 2, none⟩ = some z ∧ ((((w.setCell ⟨g, 0, none⟩ x).setCell ⟨g, 1, none⟩ y).setCell ⟨g, 2, none⟩ z).setCell ⟨g, 3, none⟩ u).cell? ⟨g, 3, none⟩ = some u := by
  have ne : ∀ {i j : Nat}, i ≠ j → (⟨g, j, none⟩ : Addr) ≠ ⟨g, i, none⟩ := fun h e => h (congrArg Addr.off e).symm
  have st : ∀ {W : World} {i j : Nat} {v : Value}, i ≠ j → (W.setCell ⟨g, j, none⟩ v).cell? ⟨g, i, none⟩ = W.cell? ⟨g, i, none⟩ := fun h => World.cell?_setCell_other _ _ _ _ (ne h)
  refine ⟨?_, ?_, ?_, ?_⟩
  · rw [st (by decide), st (by decide), st (by decide)]; exact World.cell?_setCell_same' _ _ _ h0
  · rw [st (by decide), st (by decide)]; exact World.cell?_setCell_same' _ _ _ (by rw [st (by decide)]; exact h1)
  · rw [st (by decide)]; exact World.cell?_setCell_same' _ _ _ (by rw [st (by decide), st (by decide)]; exact h2)
  · exact World.cell?_setCell_same' _ _ _ (by rw [st (by decide), st (by decide), st (by decide)]; exact h3)

def CopyCut (w1 : World) (n n' : Nat) (ws ts : List Int) (s3 s4 : Value) (wx : World) : Prop := ∃ p d p' d', s3 = .slice p n d ∧ s4 = .slice p' n' d' ∧ SlF w1.heap.size wx p n ws ∧ SlF w1.heap.size wx p' n' ts ∧ Below w1.heap.size w1 wx
/-- a machine of one's own: no row lies below F, and the row of buffers is apart -/
def MachPost (ws ts : List Int) (D : Int) (bs : List (List (Int × Int))) (w : World) (e : Ending) (w' : World) : Prop :=
  ∃ p n d p' n' d' g m, e = .returned (.agg #[.slice p n d, .slice p' n' d', .int .i64 D, .slice (some ⟨g, 0, none⟩) m m]) ∧ SlP (fun b => w.heap.size ≤ b ∧ b ≠ g) w' p n ws ∧ SlP (fun b => w.heap.size ≤ b ∧ b ≠ g) w' p' n' ts ∧ BOwn w.heap.size g m m bs w' ∧ Below w.heap.size w w'
theorem load_tso (w : World) (b : Nat) (x y z u : Value) (k0 : w.cell? ⟨b, 0, none⟩ = some x) (k1 : w.cell? ⟨b, 1, none⟩ = some y) (k2 : w.cell? ⟨b, 2, none⟩ = some z) (k3 : w.cell? ⟨b, 3, none⟩ = some u) : (loadVar 56 ⟨b, 0, none⟩).run Try.prog w = .ok (.agg #[x, y, z, u]) w := by
  simp [go_sem, k0, k1, k2, k3]
theorem load_tso' (w : World) (b : Nat) (x y z u : Value) (k0 : w.cell? ⟨b, 0, none⟩ = some x) (k1 : w.cell? ⟨b, 1, none⟩ = some y) (k2 : w.cell? ⟨b, 2, none⟩ = some z) (k3 : w.cell? ⟨b, 3, none⟩ = some u) : (loadVar 27 ⟨b, 0, none⟩).run Try.prog w = .ok (.agg #[x, y, z, u]) w := by
  simp [go_sem, k0, k1, k2, k3]
end Go.Proofs.Yteojpdhmhjoeiaa
