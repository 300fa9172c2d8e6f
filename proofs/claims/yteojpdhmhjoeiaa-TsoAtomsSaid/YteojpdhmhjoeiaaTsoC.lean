/- The contract of package tso's copied. -/
import Derived.Test.YteojpdhmhjoeiaaTsoB
namespace Go.Proofs.Yteojpdhmhjoeiaa
open Go.ChangeShapes Go.WideShapes Go.ChangeAt Go.RowKit

theorem machPost_mk {ws ts : List Int} {D : Int} {bs : List (List (Int × Int))} {w wc wr : World} {p p' : Option Addr} {n n' d d' m : Nat} {x y z u : Value}
    (u1 : SlF (w.heap.size + 2) wc p n ws) (u2 : SlF (w.heap.size + 2) wc p' n' ts) (hb : Below wc.heap.size wc wr) (O : BOwn (w.heap.size + 2) wc.heap.size m m bs wr) (hb0 : Below w.heap.size w wc) :
    MachPost ws ts D bs w (.returned (.agg #[.slice p n d, .slice p' n' d', .int .i64 D, .slice (some ⟨wc.heap.size, 0, none⟩) m m])) ((((wr.setCell ⟨w.heap.size + 1, 0, none⟩ x).setCell ⟨w.heap.size + 1, 1, none⟩ y).setCell ⟨w.heap.size + 1, 2, none⟩ z).setCell ⟨w.heap.size + 1, 3, none⟩ u) := by
  have hz := hb0.size
  have hF : w.heap.size + 2 ≤ wc.heap.size := O.2.1
  have hk : ∀ (b o : Nat) (v : Value), (w.heap.size + 2 ≤ b ∧ b < wc.heap.size) → wc.cell? ⟨b, o, none⟩ = some v → ((((wr.setCell ⟨w.heap.size + 1, 0, none⟩ x).setCell ⟨w.heap.size + 1, 1, none⟩ y).setCell ⟨w.heap.size + 1, 2, none⟩ z).setCell ⟨w.heap.size + 1, 3, none⟩ u).cell? ⟨b, o, none⟩ = some v := by
    intro b o v hq hv
    have ne : ∀ j, (⟨w.heap.size + 1, j, none⟩ : Addr) ≠ ⟨b, o, none⟩ := fun j e => by have h := congrArg Addr.block e; dsimp only at h; omega
    rw [World.cell?_setCell_other _ _ _ _ (ne _), World.cell?_setCell_other _ _ _ _ (ne _), World.cell?_setCell_other _ _ _ _ (ne _), World.cell?_setCell_other _ _ _ _ (ne _)]
    exact cellB hb hv
  have rw' : ∀ {a : Option Addr} {k : Nat} {zs : List Int}, SlF (w.heap.size + 2) wc a k zs → SlP (fun b => w.heap.size + 2 ≤ b ∧ b < wc.heap.size) wc a k zs := by
    intro a k zs h
    refine ⟨h.1, ?_⟩
    by_cases h0 : k = 0
    · exact .inl h0
    · obtain ⟨b, o, e, hf, r⟩ := h.2.resolve_left h0
      exact .inr ⟨b, o, e, ⟨hf, cell_lt (r 0 (by have := h.1; omega))⟩, r⟩
  refine ⟨_, _, _, _, _, _, _, _, rfl, slP_mono (fun b hq => ⟨by omega, by omega⟩) (slP_keep hk (rw' u1)), slP_mono (fun b hq => ⟨by omega, by omega⟩) (slP_keep hk (rw' u2)), ?_, ?_⟩
  · exact bown_mono (by omega) (bown_out (bown_out (bown_out (bown_out O (by simp) _) (by simp) _) (by simp) _) (by simp) _)
  · exact ((((hb0.trans (hb.mono hz)).setCell (by simp) _).setCell (by simp) _).setCell (by simp) _).setCell (by simp) _

set_option maxRecDepth 100000 in
set_option maxHeartbeats 4000000 in
theorem copiedT_any (a a' q : Option Addr) (n c n' c' l d : Nat) (ws ts : List Int) (D : Int) (bs : List (List (Int × Int))) (w : World) (S1 : Sl w a n ws) (S2 : Sl w a' n' ts) (S : Bl w q l bs) (hm : mayT ws ts D bs = true) :
    Calls Try.prog 24 #[.agg #[.slice a n c, .slice a' n' c', .int .i64 D, .slice q l d]] w (MachPost ws ts D bs w) := by
  obtain ⟨m0, ⟨m1, m2⟩, ⟨m3, m4⟩, m5⟩ := mayT_parts hm
  obtain ⟨z0, z1, z2⟩ := mayB_size m0
  have Hw := Lib.hid S1.1
  have Ht := Lib.hid S2.1
  have Hl := Lib.hid S.1
  have hn1 : 1 ≤ n := by rw [← Hw.out]; exact z0
  have hn2 : n ≤ 160 := by rw [← Hw.out]; exact z1
  have hn3 : 1 ≤ n' := by rw [← Ht.out, z2]; exact z0
  have hn4 : n' ≤ 160 := by rw [← Ht.out, z2]; exact z1
  have hl1 : 1 ≤ l := by rw [← Hl.out]; exact m1
  have hl2 : l ≤ 8 := by rw [← Hl.out]; exact m2
  have H5 : Hid (∀ i, i < l → (bs.getD i []).length ≤ 8) := fun i hi => by have := (m5 i (by rw [Hl.out]; exact hi)).1; omega
  clear m0 m1 m2 m3 m4 m5 z0 z1 z2 hm
  go_enter Try.func24, Try.ntmps24
  go_upto_region 1 with fail
  obtain ⟨W, hW⟩ : ∃ W, W = (w.alloc (Obj.cells #[.slice a n c, .slice a' n' c', .int .i64 D, .slice q l d] 56)).alloc (Obj.cells #[.slice none 0 0, .slice none 0 0, .int .i64 0, .slice none 0 0] 56) := ⟨_, rfl⟩
  have b0 : Below w.heap.size w W := by rw [hW]; go_grown
  have hWs : W.heap.size = w.heap.size + 2 := by rw [hW]; simp
  have k0 : W.cell? ⟨w.heap.size, 0, none⟩ = some (.slice a n c) := by rw [hW]; exact cellA _ (by simp)
  have k1 : W.cell? ⟨w.heap.size, 1, none⟩ = some (.slice a' n' c') := by rw [hW]; exact cellA _ (by simp)
  have k2 : W.cell? ⟨w.heap.size, 2, none⟩ = some (.int .i64 D) := by rw [hW]; exact cellA _ (by simp)
  have k3 : W.cell? ⟨w.heap.size, 3, none⟩ = some (.slice q l d) := by rw [hW]; exact cellA _ (by simp)
  have r0 : W.cell? ⟨w.heap.size + 1, 0, none⟩ = some (.slice none 0 0) := by rw [hW]; simp
  have r1 : W.cell? ⟨w.heap.size + 1, 1, none⟩ = some (.slice none 0 0) := by rw [hW]; simp
  have r2 : W.cell? ⟨w.heap.size + 1, 2, none⟩ = some (.int .i64 0) := by rw [hW]; simp
  have r3 : W.cell? ⟨w.heap.size + 1, 3, none⟩ = some (.slice none 0 0) := by rw [hW]; simp
  have f0 : ∀ i, W.frozen? ⟨w.heap.size + 1, i, none⟩ = false := by intro i; rw [hW]; exact free_row (heap_new _ _ _ (by simp))
  rw [← hW]
  have HWs := Lib.hid hWs
  have HF0 := Lib.hid f0
  have T1 := slB b0 S1
  have T2 := slB b0 S2
  have T := blB b0 S
  have HB0 := Lib.hid b0
  clear hW hWs f0 b0 S1 S2 S
  go_cut [3, 4] (fun s3 s4 wx => CopyCut W n n' ws ts s3 s4 wx)
  case first =>
    have hB0 : Below W.heap.size W W.drew := (Below.refl _ _).drew
    go_region_held3 (fun w' => w'.cell? ⟨w.heap.size, 0, none⟩ = some (.slice a n c) ∧ w'.cell? ⟨w.heap.size, 1, none⟩ = some (.slice a' n' c') ∧ Below W.heap.size W w')
      (first | exact ⟨k0, k1, (Below.refl _ _).drew⟩ | (exact ⟨cellB (by assumption) k0, cellB (by assumption) k1, by assumption⟩))
      ((first | (go_at_call 52; refine (cloneI_any a n c ws _ (slB (by assumption) T1) (by omega) (.inl (by omega))).mono ?_; rintro e wx ⟨p, d, rfl, u1, hbx⟩; rw [Hw.out] at u1 ⊢; have hbx' := below_from (by assumption) hbx) | (go_at_call 52; refine (cloneI_any a' n' c' ts _ (slB (by assumption) T2) (by omega) (.inl (by omega))).mono ?_; rintro e wy ⟨p', d', rfl, u2, hby⟩; rw [Ht.out] at u2 ⊢; have hby' := below_from (by assumption) hby)))
    all_goals
      go_wp2_with fail
      go_meet
      first
        | exact ⟨_, _, _, _, rfl, rfl, slF_below hby u1, slF_mono3 (hbx'.size) u2, hby'⟩
        | exact ⟨_, _, _, _, rfl, rfl, slF_mono3 (hby'.size) u1, slF_below hbx u2, hbx'⟩
  case rest =>
    obtain ⟨p, d1, p', d2, rfl, rfl, u1, u2, hbx⟩ := hcut
    replace u1 := slF_mono3 (F' := w.heap.size + 2) (by rw [HWs.out]; exact Nat.le_refl _) u1
    replace u2 := slF_mono3 (F' := w.heap.size + 2) (by rw [HWs.out]; exact Nat.le_refl _) u2
    have hmk := make_bufs l (by omega)
    have hsz : w.heap.size + 2 ≤ wc.heap.size := by have := hbx.size; rw [HWs.out] at this; exact this
    have HBX := Lib.hid (below_from HB0.out hbx)
    replace k0 := cellB hbx k0
    replace k1 := cellB hbx k1
    replace k2 := cellB hbx k2
    replace k3 := cellB hbx k3
    have f0 := frozenB hbx r0 (HF0.out 0)
    have f1 := frozenB hbx r1 (HF0.out 1)
    have f2 := frozenB hbx r2 (HF0.out 2)
    have f3 := frozenB hbx r3 (HF0.out 3)
    replace r0 := cellB hbx r0
    replace r1 := cellB hbx r1
    replace r2 := cellB hbx r2
    replace r3 := cellB hbx r3
    replace T := blB hbx T
    have a3 := cellA (Obj.cells (Nb l) 54) k3
    have U1 := Lib.hid u1
    have U2 := Lib.hid u2
    clear hbx T1 T2 u1 u2 HWs HF0 HB0
    go_wp2_with fail
    go_loopw [27] (fun i wr => ∃ k : Nat, k ≤ l ∧ i = .int .i64 k ∧ Hid (BOwn (w.heap.size + 2) wc.heap.size k l bs wr) ∧ Below wc.heap.size wc wr) (fun i _ => l - (intOf i).toNat)
    case atStart => exact ⟨0, by omega, rfl, bown_new _ _ _ _ Hl.out hsz, (Below.refl _ _).alloc (Nat.le_refl _) _⟩
    case round =>
      obtain ⟨k, hk, rfl, hr, hb⟩ := hrel
      have k0' := cellB hb k0
      have k1' := cellB hb k1
      have k2' := cellB hb k2
      have k3' := cellB hb k3
      have HB := Lib.hid hb
      by_cases hlt : k < l
      · obtain ⟨b, o, y, yc, rfl, g0, hcap, hp⟩ := bl_at (blB hb T) hlt
        have h8 := H5.out k hlt
        obtain ⟨x, hx⟩ : ∃ x, bs.getD k [] = x := ⟨_, rfl⟩
        rw [hx] at g0 hp hcap h8
        have HX := Lib.hid hx
        obtain ⟨m, hm⟩ : ∃ m, x.length = m := ⟨_, rfl⟩
        rw [hm] at g0 hp hcap h8
        have HM := Lib.hid hm
        have i1 : (0 : Int) ≤ k := by omega
        have i2 : (k : Int) < l := by omega
        have HC := Lib.hid hcap
        clear hx hm hb hcap
        go_wp2_with (go_at_call 53; refine (cloneP_any y m yc x _ hp HC.out (by omega)).mono ?_; rintro e w2 ⟨y2, c2, rfl, hc2, hp2, hb2⟩; rw [HM.out] at hc2 hp2 ⊢; have O2 := bown_B hb2 hr.out; have G0 := O2.2.2.2.2.1 k (Nat.le_refl _) hlt; have G1 := O2.2.2.2.2.2 k hlt; have HO2 := Lib.hid O2; have HB2 := Lib.hid hb2; have HP2 := Lib.hid hp2; have HC2 := Lib.hid hc2; clear O2 hb2 hp2 hc2)
        have hsr := hr.out.2.2.1
        go_roundw
        case rel =>
          refine ⟨k + 1, by omega, by go_num, bown_set HO2.out k hlt (Nat.le_refl _) x (plQ_F (F := wr.heap.size) (fun b h1 h2 => ⟨by omega, by omega⟩) HP2.out) HC2.out _ (by simp) bs Hl.out HX.out (fun _ _ _ => rfl), (below_from HB.out HB2.out).setCell (Nat.le_refl _) _⟩
        case measure => simp [intOf]; omega
      · obtain rfl : k = l := by omega
        have r0' := cellB hb r0
        have r1' := cellB hb r1
        have r2' := cellB hb r2
        have r3' := cellB hb r3
        have f0' := frozenB hb r0 f0
        have f1' := frozenB hb r1 f1
        have f2' := frozenB hb r2 f2
        have f3' := frozenB hb r3 f3
        clear hb r0 r1 r2 r3 f0 f1 f2 f3 k0 k1 k2 k3
        go_wp2
        have R4 := set4 (w := wr) (g := w.heap.size + 1) (.slice p n d1) (.slice p' n' d2) (.int .i64 D) (.slice (some ⟨wc.heap.size, 0, none⟩) k k) (by rw [r0']; rfl) (by rw [r1']; rfl) (by rw [r2']; rfl) (by rw [r3']; rfl)
        refine bp_cell ⟨w.heap.size + 1, 0, none⟩ rfl rfl rfl (load_tso _ _ _ _ _ _ R4.1 R4.2.1 R4.2.2.1 R4.2.2.2) ?_
        exact machPost_mk U1.out U2.out HB.out hr.out HBX.out
end Go.Proofs.Yteojpdhmhjoeiaa
