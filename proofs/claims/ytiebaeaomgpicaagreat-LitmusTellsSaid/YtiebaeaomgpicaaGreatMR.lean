/- RefT, RefU, RefC, RefV, RefW, RefX, RefY, RefZ, put together. -/
import Derived.Test.YtiebaeaomgpicaaGreatM7
import Derived.Test.YtiebaeaomgpicaaGreatM4
import Derived.Deep.RegionWith
import Derived.Test.YtiebaeaomgpicaaGreatM1
/- Contracts of the document's own answers of layer 3 (package respiteref03): Sizes, Right, Same, New. -/
namespace Go.Proofs.YtiebaeaomgpicaaGreat
open Go.ChangeShapes Go.WideShapes Go.ChangeAt Go.RowKit

set_option maxRecDepth 100000 in
set_option maxHeartbeats 4000000 in
/-- two machines that read as the same lists are the same -/
theorem refSameT_any (a a' q b b' r : Option Addr) (n c n' c' l d m e m' e' k f : Nat) (ws ts : List Int) (D : Int) (bs : List (List (Int × Int))) (w : World) (S1 : Sl w a n ws) (S2 : Sl w a' n' ts) (S : Bl w q l bs) (T1 : Sl w b m ws) (T2 : Sl w b' m' ts) (T : Bl w r k bs) (hn : n ≤ 1000) (hn' : n' ≤ 1000) (hl : l ≤ 1000) :
    Calls Tryz.prog 85 #[.agg #[.slice a n c, .slice a' n' c', .int .i64 D, .slice q l d], .agg #[.slice b m e, .slice b' m' e', .int .i64 D, .slice r k f]] w (BoolPost true w) := by
  obtain rfl : m = n := by rw [← S1.1, T1.1]
  obtain rfl : m' = n' := by rw [← S2.1, T2.1]
  obtain rfl : k = l := by rw [← S.1, T.1]
  have Hl := Lib.hid S.1
  have qD : (D != D) = false := by simp
  have qk : ((k : Int) != k) = false := by simp
  go_enter Tryz.func85, Tryz.ntmps85
  go_wp2_with fail
  refine (Same_any a a' m c m' c' b b' m e m' e' ws ts ws ts _ (slA _ (slA _ S1)) (slA _ (slA _ S2)) (slA _ (slA _ T1)) (slA _ (slA _ T2)) (by omega) (by omega)).mono ?_
  rintro x w1 ⟨rfl, hb⟩
  rw [sameB_refl, sameB_refl]
  have hb1 : Below w.heap.size w w1 := below_from (by go_grown) hb
  have x2 : w1.cell? ⟨w.heap.size, 2, none⟩ = some (.int .i64 D) := cellB hb (cellA _ (by simp))
  have x3 : w1.cell? ⟨w.heap.size, 3, none⟩ = some (.slice q k d) := cellB hb (cellA _ (by simp))
  have y2 : w1.cell? ⟨w.heap.size + 1, 2, none⟩ = some (.int .i64 D) := cellB hb (by simp)
  have y3 : w1.cell? ⟨w.heap.size + 1, 3, none⟩ = some (.slice r k f) := cellB hb (by simp)
  have HB1 := Lib.hid hb1
  replace S := blB hb1 S
  replace T := blB hb1 T
  clear hb hb1 S1 S2 T1 T2
  go_wp2
  go_loopw [31] (fun s wr => ∃ j : Nat, j ≤ k ∧ s = .int .i64 j ∧ Below w1.heap.size w1 wr) (fun s _ => k - (intOf s).toNat)
  case atStart => exact ⟨0, by omega, rfl, Below.refl _ _⟩
  case round =>
    obtain ⟨j, hj, rfl, hb⟩ := hrel
    have HB := Lib.hid hb
    by_cases hlt : j < k
    · obtain ⟨b1, o1, p, pc, rfl, g0, hcap, hp⟩ := bl_at (blB hb S) hlt
      obtain ⟨b2, o2, p2, pc2, rfl, k0, hcap2, hp2⟩ := bl_at (blB hb T) hlt
      obtain ⟨z, hz⟩ : ∃ z, bs.getD j [] = z := ⟨_, rfl⟩
      rw [hz] at g0 hp hcap k0 hp2 hcap2
      obtain ⟨u, hu⟩ : ∃ u, z.length = u := ⟨_, rfl⟩
      rw [hu] at g0 hp hcap k0 hp2 hcap2
      have hc2 : u ≤ 9223372036854775807 := by have := hcap.1; have := hcap.2.1; omega
      have x3' := cellB hb x3
      have y3' := cellB hb y3
      have i1 : (0 : Int) ≤ j := by omega
      have i2 : (j : Int) < k := by omega
      clear hb hz hu hcap hcap2
      go_wp2_with fail
      have hB0 : Below wr.heap.size wr wr.drew := (Below.refl _ _).drew
      go_region_held3 (fun w' => w'.cell? ⟨w.heap.size, 3, none⟩ = some (.slice (some ⟨b1, o1, none⟩) k d) ∧ w'.cell? ⟨w.heap.size + 1, 3, none⟩ = some (.slice (some ⟨b2, o2, none⟩) k f) ∧ w'.cell? ⟨b1, o1 + j, none⟩ = some (.slice p u pc) ∧ w'.cell? ⟨b2, o2 + j, none⟩ = some (.slice p2 u pc2))
        (first | exact ⟨x3', y3', g0, k0⟩ | (exact ⟨cellB (by assumption) x3', cellB (by assumption) y3', cellB (by assumption) g0, cellB (by assumption) k0⟩))
        ((go_at_call 104; refine (refSameP_any p p2 u pc u pc2 z z _ (plB (by assumption) hp) (plB (by assumption) hp2) hc2).mono ?_; rw [samePB_refl]; rintro x w2 ⟨rfl, hb2⟩; have hb2' := below_from (by assumption) hb2))
      have HB2 := Lib.hid (below_from HB.out hb2')
      clear hb2 hb2' hB0 x3' y3' g0 k0
      go_wp2_with fail
      go_roundw
      case rel => exact ⟨j + 1, by omega, by go_num, HB2.out⟩
      case measure => simp [intOf]; omega
    · obtain rfl : j = k := by omega
      clear hb
      go_wp2
      go_ret
      exact boolPost_mk rfl (HB1.out.trans (HB.out.mono HB1.out.size))
end Go.Proofs.YtiebaeaomgpicaaGreat
/- Contracts of the document's own answers of layer 3 (package respiteref03): New. -/
namespace Go.Proofs.YtiebaeaomgpicaaGreat
open Go.ChangeShapes Go.WideShapes Go.ChangeAt Go.RowKit

/-- a machine with a row of buffers of its own -/
def RefNewP (a a' : Option Addr) (n c n' c' : Nat) (D : Int) (k : Nat) (bs : List (List (Int × Int))) (w : World) (e : Ending) (w' : World) : Prop :=
  ∃ q d, e = .returned (.agg #[.slice a n c, .slice a' n' c', .int .i64 D, .slice q k d]) ∧ Bl w' q k bs ∧ Below w.heap.size w w'

set_option maxRecDepth 100000 in
set_option maxHeartbeats 4000000 in
theorem refNewT_any (a a' : Option Addr) (n c n' c' k : Nat) (D : Int) (w : World) (hk8 : k ≤ 8) :
    Calls Tryz.prog 45 #[.agg #[.slice a n c, .slice a' n' c'], .int .i64 k, .int .i64 D] w (RefNewP a a' n c n' c' D k (List.replicate k []) w) := by
  obtain ⟨i0, hi, hz0, hz1, hz2⟩ := info_parts Tryz.info67
  have HI := Lib.hid (And.intro hi (And.intro hz0 (And.intro hz1 hz2)))
  clear hi hz0 hz1 hz2
  go_enter Tryz.func45, Tryz.ntmps45
  go_upto_region 2 with fail
  obtain ⟨W, hW⟩ : ∃ W, W = ((w.alloc (Obj.cells #[.slice a n c, .slice a' n' c'] 43)).alloc (Obj.cells #[.slice none 0 0, .slice none 0 0, .int .i64 0, .slice none 0 0] 46)).alloc (Obj.cells #[.slice a n c, .slice a' n' c', .int .i64 D, .slice none 0 0] 46) := ⟨_, rfl⟩
  have b0 : Below w.heap.size w W := by rw [hW]; go_grown
  have R0 : Var4 W (w.heap.size + 1) (.slice none 0 0) (.slice none 0 0) (.int .i64 0) (.slice none 0 0) := by rw [hW]; exact var4_A _ (var4_new _ (by simp))
  have X0 : Var4 W (w.heap.size + 1 + 1) (.slice a n c) (.slice a' n' c') (.int .i64 D) (.slice none 0 0) := by rw [hW]; exact var4_new _ (by simp)
  rw [← hW]
  have hWs : w.heap.size + 1 + 1 < W.heap.size := var4_lt X0
  have HB0 := Lib.hid b0
  have HR0 := Lib.hid R0
  have HX0 := Lib.hid X0
  clear hW b0 R0 X0
  go_wp2_with fail
  go_loopw [8] (fun i wr => ∃ (j : Nat) (v : Value) (vs : List Value), j ≤ k ∧ i = .int .i64 j ∧ Hid (wr.ownsRow (w.heap.size + 1 + 1 + 1) 67 1 v j vs) ∧ Hid (BVals w vs (List.replicate j [])) ∧ Hid (Var4 wr (w.heap.size + 1 + 1) (.slice a n c) (.slice a' n' c') (.int .i64 D) v) ∧ Hid (Var4 wr (w.heap.size + 1) (.slice none 0 0) (.slice none 0 0) (.int .i64 0) (.slice none 0 0)) ∧ Below w.heap.size w wr) (fun i _ => k - (intOf i).toNat)
  case atStart => exact ⟨0, _, [], by omega, rfl, World.ownsRow_nil _ _ _ _, bvals_nil w, HX0.out, HR0.out, HB0.out⟩
  case round =>
    obtain ⟨j, v, vs, hj, rfl, ho, hv, hx, hr, hb⟩ := hrel
    by_cases hlt : j < k
    · obtain ⟨va, vc, rfl⟩ := own_shapeT ho.out
      have HB := Lib.hid hb
      have hsx := var4_lt hx.out
      obtain ⟨⟨x0, x1, x2, x3⟩, y0, y1, y2, y3⟩ := id hx.out
      clear hb
      go_wp2_with (at_builtin; refine wpList_append_own_at _ rfl _ _ 44 rfl (w.heap.size + 1 + 1 + 1) 67 i0 (.slice none 0 0) 1 24 Tryz.underlying44 HI.out.1 HI.out.2.1 HI.out.2.2.1 HI.out.2.2.2 rfl (by decide) _ _ _ rfl (ho.out.alloc _) ⟨wr.heap.size, 0, none⟩ 1 1 [.slice none 0 0] rfl rfl ?c1 ?c2 ?c3 ?c4 ?c5 ?_)
      case c1 => exact cell_one_new _ _ _
      case c2 => intro x hx; simp at hx; subst hx; rfl
      case c3 => unfold maxLen; omega
      case c4 => omega
      case c5 => simp; omega
      intro v' w1 hown hgrow _ _
      obtain ⟨v2, c2, rfl⟩ := own_shapeT hown
      have hB : Below (w.heap.size + 1 + 1 + 1) wr w1 := mine_below ((Below.refl _ _).alloc (by omega) _) (by simp; omega) hgrow ho.out
      have X1 := var4_low hB (Nat.lt_succ_self _) hx.out
      obtain ⟨⟨z0, z1, z2, z3⟩, f0, f1, f2, f3⟩ := id X1
      have HX1 := Lib.hid X1
      have HOW := Lib.hid hown
      have HBB := Lib.hid hB
      clear X1 hown hgrow hB x0 x1 x2 x3 y0 y1 y2 y3
      go_wp2_with fail
      go_roundw
      case rel =>
        refine ⟨j + 1, _, _, by omega, by go_num, ownsRow_setCell_below HOW.out (by simp) _, ?_, var4_set3 HX1.out _, var4_other (var4_low HBB.out (by omega) hr.out) (by omega) _, ((HB.out.trans (HBB.out.mono (by omega))).setCell (by simp; omega) _)⟩
        rw [List.replicate_succ']
        exact bvals_snoc hv.out capOk_nil (pl_nil w)
      case measure => simp [intOf]; omega
    · obtain rfl : j = k := by omega
      obtain ⟨va, vc, rfl⟩ := own_shapeT ho.out
      have HB := Lib.hid hb
      have HF := Lib.hid (var4_set hr.out (.slice a n c) (.slice a' n' c') (.int .i64 D) (.slice va j vc))
      obtain ⟨⟨x0, x1, x2, x3⟩, -⟩ := id hx.out
      obtain ⟨⟨r0, r1, r2, r3⟩, f0, f1, f2, f3⟩ := id hr.out
      clear hb
      go_wp2
      refine bp_cell ⟨w.heap.size + 1, 0, none⟩ rfl rfl rfl (load_tso' _ _ _ _ _ _ HF.out.1.1 HF.out.1.2.1 HF.out.1.2.2.1 HF.out.1.2.2.2) ?_
      have hbf := below_set4 (g := w.heap.size + 1) HB.out (by omega) (.slice a n c) (.slice a' n' c') (.int .i64 D) (.slice va j vc)
      obtain ⟨z1, z2, e, -, hbl⟩ := ownsRow_bl (ownsRow_setCell_below (ownsRow_setCell_below (ownsRow_setCell_below (ownsRow_setCell_below ho.out (a := ⟨w.heap.size + 1, 0, none⟩) (by simp) (.slice a n c)) (a := ⟨w.heap.size + 1, 1, none⟩) (by simp) (.slice a' n' c')) (a := ⟨w.heap.size + 1, 2, none⟩) (by simp) (.int .i64 D)) (a := ⟨w.heap.size + 1, 3, none⟩) (by simp) (.slice va j vc)) (bvalsB hbf hv.out)
      cases e
      exact ⟨_, _, rfl, hbl, hbf⟩
end Go.Proofs.YtiebaeaomgpicaaGreat
/- Contracts of respiteref01: Store, Mark, New. -/
namespace Go.Proofs.YtiebaeaomgpicaaGreat
open Go.ChangeShapes Go.WideShapes Go.ChangeAt Go.RowKit

/-- a memory and an error, where the memory may lie in the one that was handed in -/
def MemRes (ws ts : List Int) (x : Int) (w : World) (e : Ending) (w' : World) : Prop :=
  ∃ a n c a' n' c', e = .returned (.tuple #[.agg #[.slice a n c, .slice a' n' c'], .int .i64 x]) ∧ Sl w' a n ws ∧ Sl w' a' n' ts ∧ Below w.heap.size w w'

/-- the same, and of the rows' blocks Q holds -/
def MemResQ (Q : Nat → Prop) (ws ts : List Int) (x : Int) (w : World) (e : Ending) (w' : World) : Prop :=
  ∃ a n c a' n' c', e = .returned (.tuple #[.agg #[.slice a n c, .slice a' n' c'], .int .i64 x]) ∧ SlP Q w' a n ws ∧ SlP Q w' a' n' ts ∧ Below w.heap.size w w'

set_option maxHeartbeats 4000000 in
theorem refStoreQ_any (Q : Nat → Prop) (a a' : Option Addr) (n c n' c' : Nat) (ws ts : List Int) (i v : Int) (w : World) (S1 : Sl w a n ws) (U2 : SlP Q w a' n' ts) (hQ : ∀ b, w.heap.size ≤ b → Q b) (hm : mayB ws ts = true) :
    Calls Tryz.prog 46 #[.agg #[.slice a n c, .slice a' n' c'], .int .i64 i, .int .i64 v] w (MemResQ Q (storeW ws ts i v) (storeT ws ts i) (usableZ ws ts i) w) := by
  have hzz := mayB_size hm
  have hn1 := S1.1
  have hn2 : n ≤ 1000 := by omega
  have Hm := Lib.hid hm
  have S2 := U2.sl
  have HU := Lib.hid U2
  have HQ := Lib.hid hQ
  clear hm hzz hn1 U2 hQ
  by_cases he : usableZ ws ts i = 0
  · have HE := Lib.hid he
    obtain ⟨-, h0, h1, -⟩ := usable_zero he
    have H1 := Lib.hid (show storeW ws ts i v = withZ ws i v by
      rw [storeW, if_pos he]
      obtain ⟨k, rfl⟩ := Int.eq_ofNat_of_zero_le h0
      rw [Int.toNat_natCast, withZ_set])
    have H2 := Lib.hid (show storeT ws ts i = ts by rw [storeT, if_pos he])
    clear he h0 h1
    rw [H1.out, H2.out, HE.out]
    go_enter Tryz.func46, Tryz.ntmps46
    go_wp2_with fail
    refine (refLoad_any _ _ n c n' c' ws ts i _ (slA _ (slA _ S1)) (slA _ (slA _ S2)) Hm.out).mono ?_
    rintro e w1 ⟨rfl, hb⟩
    have hb1 : Below w.heap.size w w1 := below_from (by go_grown) hb
    have k0 : w1.cell? ⟨w.heap.size, 0, none⟩ = some (.slice a n c) := cellB hb (cellA _ (by simp))
    have k1 : w1.cell? ⟨w.heap.size, 1, none⟩ = some (.slice a' n' c') := cellB hb (cellA _ (by simp))
    have r0 : w1.cell? ⟨w.heap.size + 1, 0, none⟩ = some (.slice none 0 0) := cellB hb (by simp)
    have r1 : w1.cell? ⟨w.heap.size + 1, 1, none⟩ = some (.slice none 0 0) := cellB hb (by simp)
    have hs1 : w.heap.size + 1 < w1.heap.size := by have := hb.size; simp at this; omega
    have f0 : w1.frozen? ⟨w.heap.size + 1, 0, none⟩ = false := by rw [hb.frozen (p := ⟨w.heap.size + 1, 0, none⟩) (by simp)]; exact free_row (heap_new _ _ _ (by simp))
    have f1 : w1.frozen? ⟨w.heap.size + 1, 1, none⟩ = false := by rw [hb.frozen (p := ⟨w.heap.size + 1, 1, none⟩) (by simp)]; exact free_row (heap_new _ _ _ (by simp))
    rw [HE.out]
    generalize loadZ ws ts i = lv
    have T1 := Lib.hid (slB hb1 S1)
    have HB1 := Lib.hid hb1
    clear hb hb1 S1 S2
    go_wp2_with fail
    go_region_with (go_at_call 49; refine (With_any a n c ws i v _ (slD T1.out) hn2).mono ?_; rintro e w2 ⟨p, d, rfl, s2, hb2⟩; have k1' : w2.cell? ⟨w.heap.size, 1, none⟩ = some (.slice a' n' c') := cellB hb2 k1; have r0' : w2.cell? ⟨w.heap.size + 1, 0, none⟩ = some (.slice none 0 0) := cellB hb2 r0; have r1' : w2.cell? ⟨w.heap.size + 1, 1, none⟩ = some (.slice none 0 0) := cellB hb2 r1; have f0' : w2.frozen? ⟨w.heap.size + 1, 0, none⟩ = false := (hb2.frozen (cell_lt (w := w1) r0)).trans f0; have f1' : w2.frozen? ⟨w.heap.size + 1, 1, none⟩ = false := (hb2.frozen (cell_lt (w := w1) r1)).trans f1; have HB2 := Lib.hid hb2; clear hb2)
    all_goals
      have hB := below_from (HB1.out.drew) HB2.out
      have hs2 : w.heap.size + 1 < w2.heap.size := by have := HB2.out.size; simp at this; omega
      go_wp2
      refine bp_cell_tmp ⟨w.heap.size + 1, 0, none⟩ rfl rfl rfl (load_mem _ _ _ _ (by go_cell_look) (by go_cell_look)) ?_
      have hF : Below w.heap.size w ((w2.setCell ⟨w.heap.size + 1, 0, none⟩ (.slice p (withZ ws i v).length d)).setCell ⟨w.heap.size + 1, 1, none⟩ (.slice a' n' c')) := (hB.setCell (by simp) _).setCell (by simp) _
      exact ⟨_, _, _, _, _, _, rfl, slP_slF (fun b hb => HQ.out b (Nat.le_trans (Nat.le_of_lt (Nat.lt_of_le_of_lt (Nat.le_add_right _ 1) hs1)) hb)) (slF_set (slF_set s2 _ (by simp; omega) _) _ (by simp; omega) _), slPB hF HU.out, hF⟩
  · have HE := Lib.hid (show (usableZ ws ts i != 0) = true by simpa using he)
    have H1 := Lib.hid (show storeW ws ts i v = [] by rw [storeW, if_neg he])
    have H2 := Lib.hid (show storeT ws ts i = [] by rw [storeT, if_neg he])
    clear he
    rw [H1.out, H2.out]
    obtain ⟨ev, hev⟩ : ∃ ev, usableZ ws ts i = ev := ⟨_, rfl⟩
    have HX := Lib.hid hev
    have HE' := HE.out
    rw [hev] at HE' ⊢
    clear hev HE
    go_enter Tryz.func46, Tryz.ntmps46
    go_wp2_with fail
    refine (refLoad_any _ _ n c n' c' ws ts i _ (slA _ (slA _ S1)) (slA _ (slA _ S2)) Hm.out).mono ?_
    rintro e w1 ⟨rfl, hb⟩
    have hb1 : Below w.heap.size w w1 := below_from (by go_grown) hb
    have r0 : w1.cell? ⟨w.heap.size + 1, 0, none⟩ = some (.slice none 0 0) := cellB hb (by simp)
    have r1 : w1.cell? ⟨w.heap.size + 1, 1, none⟩ = some (.slice none 0 0) := cellB hb (by simp)
    have f0 : w1.frozen? ⟨w.heap.size + 1, 0, none⟩ = false := by rw [hb.frozen (p := ⟨w.heap.size + 1, 0, none⟩) (by simp)]; exact free_row (heap_new _ _ _ (by simp))
    have f1 : w1.frozen? ⟨w.heap.size + 1, 1, none⟩ = false := by rw [hb.frozen (p := ⟨w.heap.size + 1, 1, none⟩) (by simp)]; exact free_row (heap_new _ _ _ (by simp))
    rw [HX.out]
    generalize loadZ ws ts i = lv
    clear hb S1 S2
    go_wp2
    refine bp_cell_tmp ⟨w.heap.size + 1, 0, none⟩ rfl rfl rfl (load_mem _ _ _ _ (by go_cell_look) (by go_cell_look)) ?_
    exact ⟨_, _, _, _, _, _, rfl, slP_nil _ _, slP_nil _ _, by go_grown⟩

theorem refStore_any (a a' : Option Addr) (n c n' c' : Nat) (ws ts : List Int) (i v : Int) (w : World) (S1 : Sl w a n ws) (S2 : Sl w a' n' ts) (hm : mayB ws ts = true) :
    Calls Tryz.prog 46 #[.agg #[.slice a n c, .slice a' n' c'], .int .i64 i, .int .i64 v] w (MemRes (storeW ws ts i v) (storeT ws ts i) (usableZ ws ts i) w) :=
  (refStoreQ_any _ a a' n c n' c' ws ts i v w S1 (slP_of S2) (fun _ _ => trivial) hm).mono fun _ _ ⟨x, y, z, x', y', z', e, s, s', hb⟩ => ⟨x, y, z, x', y', z', e, s.sl, s'.sl, hb⟩
end Go.Proofs.YtiebaeaomgpicaaGreat
/- Contracts of the document's own answers of layer 3 (package respiteref03): Load, with, Store. -/
namespace Go.Proofs.YtiebaeaomgpicaaGreat
open Go.ChangeShapes Go.WideShapes Go.ChangeAt Go.RowKit

set_option maxHeartbeats 4000000 in
theorem refLoadT_any (a a' q : Option Addr) (n c n' c' l d : Nat) (ws ts : List Int) (D : Int) (bs : List (List (Int × Int))) (th x : Int) (w : World) (S1 : Sl w a n ws) (S2 : Sl w a' n' ts) (S : Bl w q l bs) (hh : hasB ws ts D bs th = true) :
    Calls Tryz.prog 51 #[.agg #[.slice a n c, .slice a' n' c', .int .i64 D, .slice q l d], .int .i64 th, .int .i64 x] w (LoadPost (loadT ws ts D bs th x) (loadTE ws ts D bs th x) w) := by
  have Hl := Lib.hid S.1
  obtain ⟨hm, h0, h1⟩ := hasB_parts hh
  obtain ⟨j, rfl⟩ := Int.eq_ofNat_of_zero_le h0
  have hjl : j < l := by rw [← Hl.out]; omega
  have i1 : (0 : Int) ≤ j := by omega
  have i2 : (j : Int) < l := by omega
  have HE := Lib.hid (show loadTE ws ts D bs j x = usableZ ws ts x by rw [loadTE, if_pos hh])
  have HV := Lib.hid (show loadT ws ts D bs j x = if usableZ ws ts x = 0 then (newest (bs.getD j []) x).getD (loadZ ws ts x) else 0 by rw [loadT, HE.out, bufOf, Int.toNat_natCast])
  have H8 : (bs.getD j []).length ≤ 8 := by have := (mayT_parts hm).2.2.2 j (by omega); have := (mayT_parts hm).2.2.1; omega
  have HS8 := Lib.hid H8
  have HM := Lib.hid (mayT_parts hm).1
  clear hh hm h0 h1 H8
  go_enter Tryz.func51, Tryz.ntmps51
  go_wp2_with fail
  refine (refLoad_any a a' n c n' c' ws ts x _ (slA _ S1) (slA _ S2) HM.out).mono ?_
  rintro e w1 ⟨rfl, hb⟩
  obtain ⟨ev, hev⟩ : ∃ z, usableZ ws ts x = z := ⟨_, rfl⟩
  obtain ⟨lv, hlv⟩ : ∃ z, loadZ ws ts x = z := ⟨_, rfl⟩
  have HEV := Lib.hid hev
  have HLV := Lib.hid hlv
  rw [hev, hlv]
  have hb1 : Below w.heap.size w w1 := below_from (by go_grown) hb
  have k3 : w1.cell? ⟨w.heap.size, 3, none⟩ = some (.slice q l d) := cellB hb (by simp)
  have HB1 := Lib.hid hb1
  by_cases he : ev = 0
  · subst he
    obtain ⟨b, o, y, yc, rfl, g0, hcap, hp⟩ := bl_at (blB hb1 S) hjl
    obtain ⟨ps, hps⟩ : ∃ ps, bs.getD j [] = ps := ⟨_, rfl⟩
    have h8 := HS8.out
    rw [hps] at g0 hp hcap h8
    have HPS := Lib.hid hps
    obtain ⟨m, hm⟩ : ∃ m, ps.length = m := ⟨_, rfl⟩
    rw [hm] at g0 hp hcap h8
    clear hb hb1 hlv hev hps hm hcap HS8
    go_wp2_with fail
    refine (refNewest_any y m yc ps x _ hp (by omega)).mono ?_
    rintro e w3 ⟨rfl, hb⟩
    have HB3 := Lib.hid (below_from HB1.out hb)
    cases hnw : newest ps x with
    | some v =>
      have HN := Lib.hid (And.intro (show newestV ps x = v by rw [newestV, hnw]; rfl) (show newestB ps x = true by rw [newestB, hnw]; rfl))
      have HW := Lib.hid hnw
      rw [HN.out.1, HN.out.2]
      clear hnw hb hp
      go_wp2
      go_ret2
      exact loadPost_mk (by rw [HV.out, HEV.out, if_pos rfl, HPS.out, HW.out]; rfl) (by rw [HE.out, HEV.out]) HB3.out
    | none =>
      have HN := Lib.hid (And.intro (show newestV ps x = 0 by rw [newestV, hnw]; rfl) (show newestB ps x = false by rw [newestB, hnw]; rfl))
      have HW := Lib.hid hnw
      rw [HN.out.1, HN.out.2]
      clear hnw hb hp
      go_wp2
      go_ret2
      exact loadPost_mk (by rw [HV.out, HEV.out, if_pos rfl, HPS.out, HW.out, HLV.out]; rfl) (by rw [HE.out, HEV.out]) HB3.out
  · have q1 : (ev != 0) = true := by simpa using he
    have HEN := Lib.hid he
    clear hb hb1 hlv hev he k3 HS8
    go_wp2
    go_ret2
    exact loadPost_mk (by rw [HV.out, HEV.out, if_neg HEN.out]) (by rw [HE.out, HEV.out]) HB1.out

/-- the values of a row of buffers, of all blocks of which Q holds -/
def BValsQ (Q : Nat → Prop) (w : World) (vs : List Value) (bs : List (List (Int × Int))) : Prop := vs.length = bs.length ∧ ∀ i, i < bs.length → ∃ q c, vs[i]? = some (.slice q (bs.getD i []).length c) ∧ CapOk q (bs.getD i []).length c ∧ PlQ Q w q (bs.getD i []).length (bs.getD i [])
theorem bvalsQ_nil (Q : Nat → Prop) (w : World) : BValsQ Q w [] [] := ⟨rfl, fun i hi => by simp at hi⟩
theorem bvalsQB {Q : Nat → Prop} {w w' : World} {vs : List Value} {bs : List (List (Int × Int))} (hb : Below w.heap.size w w') (h : BValsQ Q w vs bs) : BValsQ Q w' vs bs :=
  ⟨h.1, fun i hi => by obtain ⟨q, c, h1, h2, h3⟩ := h.2 i hi; exact ⟨q, c, h1, h2, plQB hb h3⟩⟩
theorem bvalsQ_snoc {Q : Nat → Prop} {w : World} {vs : List Value} {bs : List (List (Int × Int))} {q : Option Addr} {n c : Nat} {b : List (Int × Int)} (h : BValsQ Q w vs bs) (hc : CapOk q n c) (hp : PlQ Q w q n b) : BValsQ Q w (vs ++ [.slice q n c]) (bs ++ [b]) := by
  obtain rfl : b.length = n := hp.1
  refine ⟨by simp [h.1], fun i hi => ?_⟩
  rw [List.length_append, List.length_singleton] at hi
  by_cases e : i = bs.length
  · subst e
    refine ⟨q, c, ?_, ?_, ?_⟩
    · rw [List.getElem?_append_right (by rw [h.1]; exact Nat.le_refl _), h.1]; simp
    · simpa using hc
    · simpa using hp
  · have hi' : i < bs.length := by omega
    obtain ⟨q', c', h1, h2, h3⟩ := h.2 i hi'
    have e2 : (bs ++ [b]).getD i [] = bs.getD i [] := by
      simp only [List.getD_eq_getElem?_getD]
      rw [List.getElem?_append_left hi']
    rw [e2]
    exact ⟨q', c', by rw [List.getElem?_append_left (by rw [h.1]; exact hi')]; exact h1, h2, h3⟩
theorem ownsRow_blQ {Q : Nat → Prop} {e B : Nat} {w : World} {v : Value} {n : Nat} {vs : List Value} {bs : List (List (Int × Int))} (h : w.ownsRow B e 1 v n vs) (hv : BValsQ Q w vs bs) (hQ : ∀ b, B ≤ b → Q b) : ∃ a c, v = .slice a n c ∧ CapOk a n c ∧ BlP Q w a n bs := by
  obtain ⟨hl, h⟩ := h
  have hl' : bs.length = n := by rw [← hv.1, hl, Nat.mul_one]
  rcases h with ⟨rfl, h0⟩ | ⟨g, cap, cur, rfl, hb, hg, hn, hm, hs, ht⟩
  · exact ⟨none, 0, by rw [h0], by subst h0; exact capOk_nil, hl', .inl h0⟩
  · unfold maxLen at hm
    refine ⟨_, _, rfl, ⟨hn, by omega, fun e => by cases e⟩, hl', .inr ⟨g, 0, rfl, hQ _ hb, fun i hi => ?_⟩⟩
    obtain ⟨q, c, h1, h2, h3⟩ := hv.2 i hi
    refine ⟨q, c, ?_, h2, h3⟩
    simp only [World.cell?, hg]
    rw [← ht, List.getElem?_take, if_pos (by omega)] at h1
    simpa using h1
theorem blP_at {Q : Nat → Prop} {w : World} {a : Option Addr} {n : Nat} {bs : List (List (Int × Int))} (h : BlP Q w a n bs) {i : Nat} (hi : i < n) :
    ∃ b o q c, a = some ⟨b, o, none⟩ ∧ w.cell? ⟨b, o + i, none⟩ = some (.slice q (bs.getD i []).length c) ∧ CapOk q (bs.getD i []).length c ∧ PlQ Q w q (bs.getD i []).length (bs.getD i []) := by
  obtain ⟨b, o, e, _, r⟩ := h.2.resolve_left (by omega)
  obtain ⟨q, c, h1, h2, h3⟩ := r i (by rw [h.1]; exact hi)
  exact ⟨b, o, q, c, e, h1, h2, h3⟩
theorem blP_old {Q : Nat → Prop} {w : World} {a : Option Addr} {n : Nat} {bs : List (List (Int × Int))} (hQ : ∀ b, b < w.heap.size → Q b) (h : Bl w a n bs) : BlP Q w a n bs := by
  refine ⟨h.1, ?_⟩
  by_cases h0 : n = 0
  · exact .inl h0
  · obtain ⟨b, o, e, r⟩ := h.2.resolve_left h0
    obtain ⟨q, c, h1, _⟩ := r 0 (by have := h.1; omega)
    refine .inr ⟨b, o, e, hQ _ (cell_lt h1), fun i hi => ?_⟩
    obtain ⟨q', c', k1, k2, k3⟩ := r i hi
    exact ⟨q', c', k1, k2, plQ_old hQ k3⟩
theorem withBs_succ (bs : List (List (Int × Int))) (i : Int) (b : List (Int × Int)) (k : Nat) : withBs bs i b (k + 1) = withBs bs i b k ++ [withB bs i b k] := rfl

set_option maxRecDepth 100000 in
set_option maxHeartbeats 4000000 in
theorem refWithT_any (q : Option Addr) (l d : Nat) (bs : List (List (Int × Int))) (i : Int) (p : Option Addr) (m mc : Nat) (b : List (Int × Int)) (w : World) (Q : Nat → Prop) (S : BlP Q w q l bs) (hl8 : l ≤ 8) (hp : PlQ Q w p m b) (hc : CapOk p m mc) (hQ : ∀ b, w.heap.size ≤ b → Q b) :
    Calls Tryz.prog 83 #[.slice q l d, .int .i64 i, .slice p m mc] w (fun e w' => ∃ r f, e = .returned (.slice r l f) ∧ BlP Q w' r l (withBs bs i b l) ∧ Below w.heap.size w w') := by
  obtain ⟨i0, hi, hz0, hz1, hz2⟩ := info_parts Tryz.info67
  have HI := Lib.hid (And.intro hi (And.intro hz0 (And.intro hz1 hz2)))
  have Hl := Lib.hid S.1
  have HC := Lib.hid hc
  have HP := Lib.hid hp
  clear hi hz0 hz1 hz2 hc hp
  go_enter Tryz.func83, Tryz.ntmps83
  go_wp2
  go_loopw [7, 13] (fun v s wr => ∃ (k : Nat) (vs : List Value), k ≤ l ∧ s = .int .i64 k ∧ Hid (wr.ownsRow w.heap.size 67 1 v k vs) ∧ Hid (BValsQ Q w vs (withBs bs i b k)) ∧ Below w.heap.size w wr) (fun _ s _ => l - (intOf s).toNat)
  case atStart => exact ⟨0, [], by omega, rfl, World.ownsRow_made w #[] 0 (Nat.le_refl _) (by decide) (by simp), bvalsQ_nil Q w, (Below.refl _ _).alloc (Nat.le_refl _) _⟩
  case round =>
    obtain ⟨k, vs, hk, rfl, ho, hv, hb⟩ := hrel
    by_cases hlt : k < l
    · obtain ⟨b1, o1, y, yc, rfl, g0, hcap, hp1⟩ := blP_at S hlt
      replace g0 := cellB hb g0
      obtain ⟨x, hx⟩ : ∃ x, bs.getD k [] = x := ⟨_, rfl⟩
      rw [hx] at g0 hcap hp1
      have HX := Lib.hid hx
      obtain ⟨u, hu⟩ : ∃ u, x.length = u := ⟨_, rfl⟩
      rw [hu] at g0 hcap hp1
      have HCAP := Lib.hid hcap
      have HP1 := Lib.hid hp1
      have HB := Lib.hid hb
      have hsz := hb.size
      have j1 : (0 : Int) ≤ k := by omega
      have j2 : (k : Int) < l := by omega
      clear hx hu hcap hp1 hb
      by_cases e : (k : Int) = i
      · have q1 : ((k : Int) == i) = true := by simpa using e
        have HWB := Lib.hid (show withB bs i b k = b by rw [withB, if_pos e])
        clear e
        go_wp2_with (at_builtin; refine wpList_append_own_at _ rfl _ _ 44 rfl w.heap.size 67 i0 (.slice none 0 0) 1 24 Tryz.underlying44 HI.out.1 HI.out.2.1 HI.out.2.2.1 HI.out.2.2.2 rfl (by decide) _ _ _ rfl (ho.out.alloc _) ⟨wr.heap.size, 0, none⟩ 1 1 [.slice p m mc] rfl rfl ?c1 ?c2 ?c3 ?c4 ?c5 ?_)
        case c1 => exact cell_one_new _ _ _
        case c2 => intro x hx; simp at hx; subst hx; rfl
        case c3 => unfold maxLen; omega
        case c4 => omega
        case c5 => simp; omega
        intro v' w1 hown hgrow _ _
        have HOW := Lib.hid hown
        have HBB := Lib.hid (mine_below ((Below.refl _ _).alloc hsz _) (by simp; omega) hgrow ho.out)
        clear hown hgrow
        go_wp2_with fail
        go_roundw
        case rel =>
          refine ⟨k + 1, _, by omega, by go_num, HOW.out, ?_, HB.out.trans HBB.out⟩
          rw [withBs_succ, HWB.out]
          exact bvalsQ_snoc hv.out HC.out HP.out
        case measure => simp [intOf]; omega
      · have q1 : ((k : Int) == i) = false := by simpa using e
        have HWB := Lib.hid (show withB bs i b k = x by rw [withB, if_neg e, HX.out])
        clear e
        go_wp2_with (at_builtin; refine wpList_append_own_at _ rfl _ _ 44 rfl w.heap.size 67 i0 (.slice none 0 0) 1 24 Tryz.underlying44 HI.out.1 HI.out.2.1 HI.out.2.2.1 HI.out.2.2.2 rfl (by decide) _ _ _ rfl (ho.out.alloc _) ⟨wr.heap.size, 0, none⟩ 1 1 [.slice y u yc] rfl rfl ?d1 ?d2 ?d3 ?d4 ?d5 ?_)
        case d1 => exact cell_one_new _ _ _
        case d2 => intro x hx; simp at hx; subst hx; rfl
        case d3 => unfold maxLen; omega
        case d4 => omega
        case d5 => simp; omega
        intro v' w1 hown hgrow _ _
        have HOW := Lib.hid hown
        have HBB := Lib.hid (mine_below ((Below.refl _ _).alloc hsz _) (by simp; omega) hgrow ho.out)
        clear hown hgrow
        go_wp2_with fail
        go_roundw
        case rel =>
          refine ⟨k + 1, _, by omega, by go_num, HOW.out, ?_, HB.out.trans HBB.out⟩
          rw [withBs_succ, HWB.out]
          exact bvalsQ_snoc hv.out HCAP.out HP1.out
        case measure => simp [intOf]; omega
    · obtain rfl : k = l := by omega
      have HB := Lib.hid hb
      clear hb
      go_wp2
      go_ret
      obtain ⟨r, f, e, -, hbl⟩ := ownsRow_blQ ho.out (bvalsQB HB.out hv.out) hQ
      cases e
      exact ⟨_, _, rfl, hbl, HB.out⟩
end Go.Proofs.YtiebaeaomgpicaaGreat
/- Contracts of the document's own answers of layer 3 (package respiteref03): Store. -/
namespace Go.Proofs.YtiebaeaomgpicaaGreat
open Go.ChangeShapes Go.WideShapes Go.ChangeAt Go.RowKit

/-- a machine and an error -/
def RefTP (ws ts : List Int) (D : Int) (bs : List (List (Int × Int))) (x : Int) (w : World) (e : Ending) (w' : World) : Prop :=
  ∃ a n c a' n' c' q l d, e = .returned (.tuple #[.agg #[.slice a n c, .slice a' n' c', .int .i64 D, .slice q l d], .int .i64 x]) ∧ Sl w' a n ws ∧ Sl w' a' n' ts ∧ Bl w' q l bs ∧ Below w.heap.size w w'
theorem refTP_no {A B : List Int} {z E : Int} {C : List (List (Int × Int))} (he : E ≠ 0) {w w' : World} (hb : Below w.heap.size w w') : RefTP (okL E A) (okL E B) (okZ E z) (okL E C) E w (.returned (.tuple #[.agg #[.slice none 0 0, .slice none 0 0, .int .i64 0, .slice none 0 0], .int .i64 E])) w' := by
  rw [okL_neg he, okL_neg he, okZ_neg he, okL_neg he]
  exact ⟨_, _, _, _, _, _, _, _, _, rfl, sl_nil _, sl_nil _, bl_nil _, hb⟩
theorem refTP_yes {A B : List Int} {z E : Int} {C : List (List (Int × Int))} (he : E = 0) {w w' : World} {a a' q : Option Addr} {n c n' c' l d : Nat} (s1 : Sl w' a n A) (s2 : Sl w' a' n' B) (s3 : Bl w' q l C) (hb : Below w.heap.size w w') :
    RefTP (okL E A) (okL E B) (okZ E z) (okL E C) E w (.returned (.tuple #[.agg #[.slice a n c, .slice a' n' c', .int .i64 z, .slice q l d], .int .i64 0])) w' := by
  subst he
  exact ⟨_, _, _, _, _, _, _, _, _, rfl, s1, s2, s3, hb⟩
theorem withBs_all {bs : List (List (Int × Int))} {j : Nat} {b : List (Int × Int)} {l : Nat} (hl : bs.length = l) : withBs bs j b l = bs.set j b := by rw [← hl, withBs_set]

set_option maxRecDepth 100000 in
set_option maxHeartbeats 8000000 in
theorem refStoreT_any (a a' q : Option Addr) (n c n' c' l d : Nat) (ws ts : List Int) (D : Int) (bs : List (List (Int × Int))) (th x v : Int) (w : World) (S1 : Sl w a n ws) (S2 : Sl w a' n' ts) (S : Bl w q l bs) (hh : hasB ws ts D bs th = true) :
    Calls Tryz.prog 50 #[.agg #[.slice a n c, .slice a' n' c', .int .i64 D, .slice q l d], .int .i64 th, .int .i64 x, .int .i64 v] w (RefTP (okL (storeTE ws ts D bs th x) (storeTW ws D x v)) (okL (storeTE ws ts D bs th x) ts) (okZ (storeTE ws ts D bs th x) D) (okL (storeTE ws ts D bs th x) (storeTB D bs th x v)) (storeTE ws ts D bs th x) w) := by
  have Hl := Lib.hid S.1
  obtain ⟨hm, h0, h1⟩ := hasB_parts hh
  obtain ⟨j, rfl⟩ := Int.eq_ofNat_of_zero_le h0
  have hjl : j < l := by rw [← Hl.out]; omega
  have hl8 : l ≤ 8 := by rw [← Hl.out]; exact (mayT_parts hm).2.1.2
  have i1 : (0 : Int) ≤ j := by omega
  have i2 : (j : Int) < l := by omega
  have HE := Lib.hid (show storeTE ws ts D bs j x = if usableZ ws ts x = 0 then (if D = 0 then 0 else if ((bs.getD j []).length : Int) = D then 7 else 0) else usableZ ws ts x by rw [storeTE, if_pos hh, bufOf, Int.toNat_natCast])
  have hlD : ((bs.getD j []).length : Int) ≤ D := ((mayT_parts hm).2.2.2 j (by omega)).1
  have hD8 : D ≤ 8 := (mayT_parts hm).2.2.1.2
  have HM := Lib.hid (mayT_parts hm).1
  clear hh hm h0 h1
  go_enter Tryz.func50, Tryz.ntmps50
  go_wp2_with fail
  have hQ : ∀ b, ((w.alloc (Obj.cells #[.slice a n c, .slice a' n' c', .int .i64 D, .slice q l d] 46)).alloc (Obj.cells #[.slice none 0 0, .slice none 0 0, .int .i64 0, .slice none 0 0] 46)).heap.size ≤ b → b ≠ w.heap.size ∧ b ≠ w.heap.size + 1 := fun b h => by simp at h; omega
  refine (refStoreQ_any (fun b => b ≠ w.heap.size ∧ b ≠ w.heap.size + 1) a a' n c n' c' ws ts x v _ (slA _ (slA _ S1)) (slPA _ (slPA _ (slP_old (fun b h => by omega) S2))) hQ HM.out).mono ?_
  rintro e w1 ⟨a2, n2, c2, a3, n3, c3, rfl, u1, u2, hb⟩
  clear hQ
  obtain ⟨ev, hev⟩ : ∃ z, usableZ ws ts x = z := ⟨_, rfl⟩
  have HEV := Lib.hid hev
  rw [hev]
  obtain ⟨W, hW⟩ : ∃ W, W = w1.alloc (Obj.cells #[.slice a2 n2 c2, .slice a3 n3 c3] 43) := ⟨_, rfl⟩
  have b1 : Below w.heap.size w w1 := below_from (by go_grown) hb
  have bW : Below w1.heap.size w1 W := by rw [hW]; exact (Below.refl _ _).alloc (Nat.le_refl _) _
  have X := var4_B bW (var4_B hb (var4_A _ (var4_new (w := w) w.heap.size rfl)))
  have R := var4_B bW (var4_B hb (var4_new (w := w.alloc _) (w.heap.size + 1) (by simp)))
  have m0 : W.cell? ⟨w1.heap.size, 0, none⟩ = some (.slice a2 n2 c2) := by rw [hW]; exact cell_new _ _ _ rfl rfl
  have m1 : W.cell? ⟨w1.heap.size, 1, none⟩ = some (.slice a3 n3 c3) := by rw [hW]; exact cell_new _ _ _ rfl rfl
  replace u1 := slPB bW u1
  replace u2 := slPB bW u2
  have hz := var4_lt R
  have HB1 := Lib.hid (below_from b1 bW)
  have HW := Lib.hid hW
  clear hb b1 bW hev hW
  go_upto_region 2 with fail
  rw [← HW.out]
  have HRR := Lib.hid R
  obtain ⟨⟨x0, x1, x2, x3⟩, g0, g1, g2, g3⟩ := id X
  obtain ⟨⟨r0, r1, r2, r3⟩, f0, f1, f2, f3⟩ := id R
  by_cases he : ev = 0
  · subst he
    by_cases hd : D = 0
    · subst hd
      have HES := Lib.hid (show storeTE ws ts 0 bs j x = 0 by rw [HE.out, HEV.out, if_pos rfl, if_pos rfl])
      have HTW := Lib.hid (show storeTW ws 0 x v = storeW ws ts x v by rw [storeTW, if_pos rfl, storeW, if_pos HEV.out])
      have HTT := Lib.hid (show storeT ws ts x = ts by rw [storeT, if_pos HEV.out])
      have HTB := Lib.hid (show storeTB 0 bs j x v = bs from if_pos rfl)
      have H4 := Lib.hid (var4_set R (.slice a2 n2 c2) (.slice a3 n3 c3) (.int .i64 0) (.slice q l d))
      clear X R
      go_wp2
      refine bp_cell_tmp ⟨w.heap.size + 1, 0, none⟩ rfl rfl rfl (load_tso' _ _ _ _ _ _ H4.out.1.1 H4.out.1.2.1 H4.out.1.2.2.1 H4.out.1.2.2.2) ?_
      have hbf := below_set4 (g := w.heap.size + 1) HB1.out (by omega) (.slice a2 n2 c2) (.slice a3 n3 c3) (.int .i64 0) (.slice q l d)
      refine refTP_yes HES.out ?_ ?_ ?_ hbf
      · rw [HTW.out]
        exact (slP_set _ (fun b h => h.2) _ (slP_set _ (fun b h => h.2) _ (slP_set _ (fun b h => h.2) _ (slP_set _ (fun b h => h.2) _ u1)))).sl
      · rw [HTT.out] at u2
        exact (slP_set _ (fun b h => h.2) _ (slP_set _ (fun b h => h.2) _ (slP_set _ (fun b h => h.2) _ (slP_set _ (fun b h => h.2) _ u2)))).sl
      · rw [HTB.out]
        exact blB hbf S
    · have q1 : (D == 0) = false := by simpa using hd
      have HDN := Lib.hid hd
      have BQ := blP_old (Q := fun b => b ≠ w.heap.size ∧ b ≠ w.heap.size + 1) (fun b h => by omega) S
      obtain ⟨b, o, y, yc, rfl, k0, hcap, hp⟩ := blP_at BQ hjl
      obtain ⟨ps, hps⟩ : ∃ ps, bs.getD j [] = ps := ⟨_, rfl⟩
      rw [hps] at k0 hp hcap hlD
      have HPS := Lib.hid hps
      obtain ⟨m, hm⟩ : ∃ m, ps.length = m := ⟨_, rfl⟩
      rw [hm] at k0 hp hcap hlD
      have HPL := Lib.hid hm
      replace k0 := cellB HB1.out k0
      have hm8 : m ≤ 8 := by omega
      have hc0 := hcap.2.2
      have HC0 := Lib.hid hc0
      have HBQ := Lib.hid BQ
      clear hps hm hcap hd hc0 BQ u1 u2 m0 m1
      by_cases hf : (m : Int) = D
      · have HES := Lib.hid (show storeTE ws ts D bs j x = 7 by rw [HE.out, HEV.out, if_pos rfl, if_neg HDN.out, HPS.out, HPL.out, if_pos hf])
        have q2 : ((m : Int) == D) = true := by simpa using hf
        have HZ := Lib.hid (var4_set R (.slice none 0 0) (.slice none 0 0) (.int .i64 0) (.slice none 0 0))
        clear hf X R
        go_wp2
        refine bp_cell_tmp ⟨w.heap.size + 1, 0, none⟩ rfl rfl rfl (load_tso' _ _ _ _ _ _ HZ.out.1.1 HZ.out.1.2.1 HZ.out.1.2.2.1 HZ.out.1.2.2.2) ?_
        rw [HES.out]
        exact refTP_no (by decide) (below_set4 (g := w.heap.size + 1) HB1.out (by omega) _ _ _ _)
      · have HES := Lib.hid (show storeTE ws ts D bs j x = 0 by rw [HE.out, HEV.out, if_pos rfl, if_neg HDN.out, HPS.out, HPL.out, if_neg hf])
        have q2 : ((m : Int) == D) = false := by simpa using hf
        have HTW := Lib.hid (show storeTW ws D x v = ws from if_neg HDN.out)
        have HTB := Lib.hid (show storeTB D bs j x v = bs.set j (ps ++ [(x, v)]) by rw [storeTB, if_neg HDN.out, bufOf, Int.toNat_natCast, HPS.out])
        have HLN := Lib.hid (show (ps ++ [(x, v)]).length = m + 1 by rw [List.length_append, HPL.out]; rfl)
        have HX := Lib.hid X
        clear hf X R
        go_wp2_with fail
        have hB0 : Below W.heap.size W W.drew := (Below.refl _ _).drew
        go_region_with (first | (go_at_call 86; refine (refPush_any y m yc ps x v _ (plB (by assumption) (plB HB1.out hp.pl)) (by omega) HC0.out).mono ?_; rintro e wx ⟨r, rc, rfl, hrc, u0, hbx⟩; rw [HLN.out] at hrc u0 ⊢; have x3' := cellB hbx x3; have hbx' := below_from (by assumption) hbx; have g3' := frozenB hbx x3 g3; have hzx : W.heap.size ≤ wx.heap.size := hbx.size) | (go_at_call 83; refine (refWithT_any (some ⟨b, o, none⟩) l d bs j r (m + 1) rc (ps ++ [(x, v)]) _ (fun b => b ≠ w.heap.size ∧ b ≠ w.heap.size + 1) (blPB hbx' (blPB HB1.out HBQ.out)) hl8 (plQ_F (F := W.heap.size) (fun z h1 h2 => by omega) u0) hrc (fun z h => by omega)).mono ?_; rintro e wy ⟨r5, f2', rfl, u5, hby⟩; have x3'' := cellB hby x3'; have g3'' := frozenB hby x3' g3'; have hby' := below_from hbx' hby))
        all_goals
          have X1 := var4_set3 (var4_B hby (var4_B hbx' HX.out)) (.slice r5 l f2')
          have R1 := var4_other (o := 3) (var4_B hby (var4_B hbx' HRR.out)) (show w.heap.size ≠ w.heap.size + 1 by omega) (.slice r5 l f2')
          have hbf1 : Below w.heap.size w (wy.setCell ⟨w.heap.size, 3, none⟩ (.slice r5 l f2')) := (below_from HB1.out hby').setCell (Nat.le_refl _) _
          have HF1 := Lib.hid hbf1
          have U5 := Lib.hid (blP_keep (keep_set (p := ⟨w.heap.size, 3, none⟩) (x := .slice r5 l f2') (fun b h => h.1)) u5)
          have H4 := Lib.hid (var4_set R1 (.slice a n c) (.slice a' n' c') (.int .i64 D) (.slice r5 l f2'))
          obtain ⟨⟨z0, z1, z2, z3⟩, -⟩ := X1
          obtain ⟨⟨s0, s1, s2, s3⟩, t0, t1, t2, t3⟩ := R1
          clear hbf1 u0 u5 hby hby' hbx hbx' hB0 x0 x1 x2 x3 x3' x3'' g0 g1 g2 g3 g3' g3'' r0 r1 r2 r3 f0 f1 f2 f3 hrc
          go_wp2
          refine bp_cell_tmp ⟨w.heap.size + 1, 0, none⟩ rfl rfl rfl (load_tso' _ _ _ _ _ _ H4.out.1.1 H4.out.1.2.1 H4.out.1.2.2.1 H4.out.1.2.2.2) ?_
          have hbf := below_set4 (g := w.heap.size + 1) HF1.out (by omega) (.slice a n c) (.slice a' n' c') (.int .i64 D) (.slice r5 l f2')
          refine refTP_yes HES.out ?_ ?_ ?_ hbf
          · rw [HTW.out]; exact slB hbf S1
          · exact slB hbf S2
          · rw [HTB.out, ← withBs_all Hl.out]
            exact (blP_keep (keep_set (p := ⟨w.heap.size + 1, 3, none⟩) (fun b h => h.2)) (blP_keep (keep_set (p := ⟨w.heap.size + 1, 2, none⟩) (fun b h => h.2)) (blP_keep (keep_set (p := ⟨w.heap.size + 1, 1, none⟩) (fun b h => h.2)) (blP_keep (keep_set (p := ⟨w.heap.size + 1, 0, none⟩) (fun b h => h.2)) U5.out)))).bl
  · have q1 : (ev != 0) = true := by simpa using he
    have HEN := Lib.hid he
    have HES := Lib.hid (show storeTE ws ts D bs j x = ev by rw [HE.out, HEV.out, if_neg he])
    have HZ := Lib.hid (var4_set R (.slice none 0 0) (.slice none 0 0) (.int .i64 0) (.slice none 0 0))
    clear he X R hlD hD8
    go_wp2
    refine bp_cell_tmp ⟨w.heap.size + 1, 0, none⟩ rfl rfl rfl (load_tso' _ _ _ _ _ _ HZ.out.1.1 HZ.out.1.2.1 HZ.out.1.2.2.1 HZ.out.1.2.2.2) ?_
    rw [HES.out]
    exact refTP_no HEN.out (below_set4 (g := w.heap.size + 1) HB1.out (by omega) _ _ _ _)
end Go.Proofs.YtiebaeaomgpicaaGreat
/- Contracts of the document's own answers of layer 3 (package respiteref03): Drop, Flush. -/
namespace Go.Proofs.YtiebaeaomgpicaaGreat
open Go.ChangeShapes Go.WideShapes Go.ChangeAt Go.RowKit

theorem blP_lt {Q : Nat → Prop} {w : World} {a : Option Addr} {n : Nat} {bs : List (List (Int × Int))} (h : BlP Q w a n bs) : BlP (fun b => Q b ∧ b < w.heap.size) w a n bs := by
  refine ⟨h.1, ?_⟩
  by_cases h0 : n = 0
  · exact .inl h0
  · obtain ⟨b, o, e, hq, r⟩ := h.2.resolve_left h0
    obtain ⟨q, c, h1, _⟩ := r 0 (by have := h.1; omega)
    refine .inr ⟨b, o, e, ⟨hq, cell_lt h1⟩, fun i hi => ?_⟩
    obtain ⟨q', c', k1, k2, k3⟩ := r i hi
    refine ⟨q', c', k1, k2, k3.1, ?_⟩
    by_cases hz : (bs.getD i []).length = 0
    · exact .inl hz
    · obtain ⟨b2, o2, e2, hq2, r2⟩ := k3.2.resolve_left hz
      exact .inr ⟨b2, o2, e2, ⟨hq2, cell_lt (r2 0 (by omega)).1⟩, r2⟩

set_option maxRecDepth 100000 in
set_option maxHeartbeats 8000000 in
theorem refDropT_any (a a' q : Option Addr) (n c n' c' l d : Nat) (D : Int) (bs : List (List (Int × Int))) (j : Nat) (w : World) (Q : Nat → Prop) (S : BlP Q w q l bs) (hjl : j < l) (hl8 : l ≤ 8) (hb8 : (bs.getD j []).length ≤ 8) (hQ : ∀ b, w.heap.size ≤ b → Q b) :
    Calls Tryz.prog 47 #[.agg #[.slice a n c, .slice a' n' c', .int .i64 D, .slice q l d], .int .i64 j] w (fun e w' => ∃ r f, e = .returned (.agg #[.slice a n c, .slice a' n' c', .int .i64 D, .slice r l f]) ∧ BlP Q w' r l (bs.set j (restP (bs.getD j []))) ∧ Below w.heap.size w w') := by
  have Hl := Lib.hid S.1
  have i1 : (0 : Int) ≤ j := by omega
  have i2 : (j : Int) < l := by omega
  have BQ := blP_mono (Q' := fun b => Q b ∧ b ≠ w.heap.size ∧ b ≠ w.heap.size + 1) (fun b h => ⟨h.1, by omega, by omega⟩) (blP_lt S)
  obtain ⟨W, hW⟩ : ∃ W, W = (w.alloc (Obj.cells #[.slice a n c, .slice a' n' c', .int .i64 D, .slice q l d] 46)).alloc (Obj.cells #[.slice none 0 0, .slice none 0 0, .int .i64 0, .slice none 0 0] 46) := ⟨_, rfl⟩
  have b0 : Below w.heap.size w W := by rw [hW]; go_grown
  have X : Var4 W w.heap.size (.slice a n c) (.slice a' n' c') (.int .i64 D) (.slice q l d) := by rw [hW]; exact var4_A _ (var4_new _ rfl)
  have R : Var4 W (w.heap.size + 1) (.slice none 0 0) (.slice none 0 0) (.int .i64 0) (.slice none 0 0) := by rw [hW]; exact var4_new _ (by simp)
  replace BQ := blPB b0 BQ
  have hz := var4_lt R
  obtain ⟨b, o, y, yc, rfl, k0, hcap, hp⟩ := blP_at BQ hjl
  obtain ⟨ps, hps⟩ : ∃ ps, bs.getD j [] = ps := ⟨_, rfl⟩
  rw [hps] at k0 hp hcap hb8
  have HPS := Lib.hid hps
  obtain ⟨m, hm⟩ : ∃ m, ps.length = m := ⟨_, rfl⟩
  rw [hm] at k0 hp hcap hb8
  have HQ := Lib.hid hQ
  have HBQ := Lib.hid BQ
  have HX := Lib.hid X
  have HRR := Lib.hid R
  have HB := Lib.hid b0
  have HW := Lib.hid hW
  have HP := Lib.hid hp
  clear hps hm hcap hQ BQ S b0 hW hp
  go_enter Tryz.func47, Tryz.ntmps47
  go_upto_region 1 with fail
  rw [← HW.out]
  obtain ⟨⟨x0, x1, x2, x3⟩, g0, g1, g2, g3⟩ := X
  clear R
  have hB0 : Below W.heap.size W W.drew := (Below.refl _ _).drew
  go_region_with (first | (go_at_call 84; refine (refRest_any y m yc ps _ (plB (by assumption) HP.out.pl) (by omega)).mono ?_; rintro e wx ⟨r, rc, rfl, hrc, u0, hbx⟩; have x3' := cellB hbx x3; have hbx' := below_from (by assumption) hbx; have g3' := frozenB hbx x3 g3; have hzx : W.heap.size ≤ wx.heap.size := hbx.size) | (go_at_call 83; refine (refWithT_any (some ⟨b, o, none⟩) l d bs j r (restP ps).length rc (restP ps) _ (fun b => Q b ∧ b ≠ w.heap.size ∧ b ≠ w.heap.size + 1) (blPB hbx' HBQ.out) hl8 (plQ_F (F := W.heap.size) (fun z h1 h2 => ⟨HQ.out z (by omega), by omega, by omega⟩) u0) hrc (fun z h => ⟨HQ.out z (by omega), by omega, by omega⟩)).mono ?_; rintro e wy ⟨r5, f5, rfl, u5, hby⟩; have x3'' := cellB hby x3'; have g3'' := frozenB hby x3' g3'; have hby' := below_from hbx' hby))
  all_goals
    have X1 := var4_set3 (var4_B hby (var4_B hbx' HX.out)) (.slice r5 l f5)
    have R1 := var4_other (o := 3) (var4_B hby (var4_B hbx' HRR.out)) (show w.heap.size ≠ w.heap.size + 1 by omega) (.slice r5 l f5)
    have hbf1 : Below w.heap.size w (wy.setCell ⟨w.heap.size, 3, none⟩ (.slice r5 l f5)) := (below_from HB.out hby').setCell (Nat.le_refl _) _
    have HF1 := Lib.hid hbf1
    have U5 := Lib.hid (blP_keep (keep_set (p := ⟨w.heap.size, 3, none⟩) (x := .slice r5 l f5) (fun b h => h.2.1)) u5)
    have H4 := Lib.hid (var4_set R1 (.slice a n c) (.slice a' n' c') (.int .i64 D) (.slice r5 l f5))
    obtain ⟨⟨z0, z1, z2, z3⟩, -⟩ := X1
    obtain ⟨⟨s0, s1, s2, s3⟩, t0, t1, t2, t3⟩ := R1
    clear hbf1 u0 u5 hby hby' hbx hbx' hB0 x0 x1 x2 x3 x3' x3'' g0 g1 g2 g3 g3' g3'' hrc
    go_wp2
    refine bp_cell ⟨w.heap.size + 1, 0, none⟩ rfl rfl rfl (load_tso' _ _ _ _ _ _ H4.out.1.1 H4.out.1.2.1 H4.out.1.2.2.1 H4.out.1.2.2.2) ?_
    have hbf := below_set4 (g := w.heap.size + 1) HF1.out (by omega) (.slice a n c) (.slice a' n' c') (.int .i64 D) (.slice r5 l f5)
    refine ⟨_, _, rfl, ?_, hbf⟩
    rw [HPS.out, ← withBs_all Hl.out]
    exact blP_mono (fun b h => h.1) (blP_keep (keep_set (p := ⟨w.heap.size + 1, 3, none⟩) (fun b h => h.2.2)) (blP_keep (keep_set (p := ⟨w.heap.size + 1, 2, none⟩) (fun b h => h.2.2)) (blP_keep (keep_set (p := ⟨w.heap.size + 1, 1, none⟩) (fun b h => h.2.2)) (blP_keep (keep_set (p := ⟨w.heap.size + 1, 0, none⟩) (fun b h => h.2.2)) U5.out))))
end Go.Proofs.YtiebaeaomgpicaaGreat
/- Contracts of the document's own answers of layer 3 (package respiteref03): Flush. -/
namespace Go.Proofs.YtiebaeaomgpicaaGreat
open Go.ChangeShapes Go.WideShapes Go.ChangeAt Go.RowKit

theorem refStoreF_any (F0 : Nat) (a a' : Option Addr) (n c n' c' : Nat) (ws ts : List Int) (i v : Int) (w : World) (S1 : Sl w a n ws) (U2 : SlP (fun b => b < F0) w a' n' ts) (hm : mayB ws ts = true) :
    Calls Tryz.prog 46 #[.agg #[.slice a n c, .slice a' n' c'], .int .i64 i, .int .i64 v] w (MemResQ (fun b => b < F0 ∨ w.heap.size ≤ b) (storeW ws ts i v) (storeT ws ts i) (usableZ ws ts i) w) :=
  refStoreQ_any _ a a' n c n' c' ws ts i v w S1 (slP_mono (fun _ h => .inl h) U2) (fun _ h => .inr h) hm
/-- the memory that a store told, in a variable of one's own -/
def FlushCut (F0 : Nat) (W : World) (ws ts : List Int) (E : Int) (s7 s8 : Value) (wx : World) : Prop :=
  ∃ g a n c a' n' c', s7 = .pointer (some ⟨g, 0, none⟩) ∧ s8 = .int .i64 E ∧ W.heap.size ≤ g ∧ wx.cell? ⟨g, 0, none⟩ = some (.slice a n c) ∧ wx.cell? ⟨g, 1, none⟩ = some (.slice a' n' c') ∧ SlP (fun b => b < F0 ∨ W.heap.size ≤ b) wx a n ws ∧ SlP (fun b => b < F0 ∨ W.heap.size ≤ b) wx a' n' ts ∧ Below W.heap.size W wx
theorem flushCut_new {F0 : Nat} {W wx : World} {ws ts : List Int} {E : Int} {a a' : Option Addr} {n c n' c' : Nat} (hb : Below W.heap.size W wx) (u1 : SlP (fun b => b < F0 ∨ W.heap.size ≤ b) wx a n ws) (u2 : SlP (fun b => b < F0 ∨ W.heap.size ≤ b) wx a' n' ts) :
    FlushCut F0 W ws ts E (.pointer (some ⟨wx.heap.size, 0, none⟩)) (.int .i64 E) (wx.alloc (.cells #[.slice a n c, .slice a' n' c'] 43)) :=
  ⟨_, _, _, _, _, _, _, rfl, rfl, hb.size, cell_new _ _ _ rfl rfl, cell_new _ _ _ rfl rfl, slPA _ u1, slPA _ u2, hb.alloc hb.size _⟩
theorem flushCut_set {F0 : Nat} {W wx : World} {ws ts : List Int} {E : Int} {a a' : Option Addr} {n c n' c' : Nat} {x y : Value} (hF : F0 ≤ W.heap.size) (hb : Below W.heap.size W wx) (Y0 : wx.cell? ⟨W.heap.size, 0, none⟩ = some x) (Y1 : wx.cell? ⟨W.heap.size, 1, none⟩ = some y)
    (u1 : SlP (fun b => b < F0 ∨ W.heap.size + 1 ≤ b) wx a n ws) (u2 : SlP (fun b => b < F0 ∨ W.heap.size + 1 ≤ b) wx a' n' ts) :
    FlushCut F0 W ws ts E (.pointer (some ⟨W.heap.size, 0, none⟩)) (.int .i64 E) ((wx.setCell ⟨W.heap.size, 0, none⟩ (.slice a n c)).setCell ⟨W.heap.size, 1, none⟩ (.slice a' n' c')) := by
  have k : ∀ b, (b < F0 ∨ W.heap.size + 1 ≤ b) → b ≠ W.heap.size := fun b h => by omega
  refine ⟨_, _, _, _, _, _, _, rfl, rfl, Nat.le_refl _, set2_0 _ _ (by rw [Y0]; rfl), set2_1 _ _ (by rw [Y1]; rfl), ?_, ?_, (hb.setCell (p := ⟨W.heap.size, 0, none⟩) (Nat.le_refl _) _).setCell (p := ⟨W.heap.size, 1, none⟩) (Nat.le_refl _) _⟩
  · exact slP_mono (fun b h => by omega) (slP_set ⟨W.heap.size, 1, none⟩ k _ (slP_set ⟨W.heap.size, 0, none⟩ k _ u1))
  · exact slP_mono (fun b h => by omega) (slP_set ⟨W.heap.size, 1, none⟩ k _ (slP_set ⟨W.heap.size, 0, none⟩ k _ u2))

theorem var4_set01 {w : World} {g : Nat} {x y z u : Value} (h : Var4 w g x y z u) (x' y' : Value) : Var4 ((w.setCell ⟨g, 0, none⟩ x').setCell ⟨g, 1, none⟩ y') g x' y' z u := by
  obtain ⟨⟨a, b, c, d⟩, e, f, i, j⟩ := h
  have ne : ∀ k i, k ≠ i → (⟨g, k, none⟩ : Addr) ≠ ⟨g, i, none⟩ := fun k i hk e => hk (congrArg Addr.off e)
  refine ⟨⟨set2_0 _ _ (by rw [a]; rfl), set2_1 _ _ (by rw [b]; rfl), ?_, ?_⟩, ?_, ?_, ?_, ?_⟩
  · rw [World.cell?_setCell_other _ _ _ _ (ne _ _ (by decide)), World.cell?_setCell_other _ _ _ _ (ne _ _ (by decide))]; exact c
  · rw [World.cell?_setCell_other _ _ _ _ (ne _ _ (by decide)), World.cell?_setCell_other _ _ _ _ (ne _ _ (by decide))]; exact d
  all_goals (rw [World.frozen?_setCell, World.frozen?_setCell]; assumption)
theorem set2_old {W wx : World} {b o : Nat} {v x y : Value} (hb : Below W.heap.size W wx) (h : W.cell? ⟨b, o, none⟩ = some v) : ((wx.setCell ⟨W.heap.size, 0, none⟩ x).setCell ⟨W.heap.size, 1, none⟩ y).cell? ⟨b, o, none⟩ = some v := by
  have ne : ∀ j, (⟨W.heap.size, j, none⟩ : Addr) ≠ ⟨b, o, none⟩ := fun j e => by have h1 := congrArg Addr.block e; have h2 := cell_lt h; dsimp only at h1 h2; omega
  rw [World.cell?_setCell_other _ _ _ _ (ne _), World.cell?_setCell_other _ _ _ _ (ne _)]
  exact cellB hb h

set_option maxRecDepth 100000 in
set_option maxHeartbeats 8000000 in
theorem refFlushT_any (a a' q : Option Addr) (n c n' c' l d : Nat) (ws ts : List Int) (D : Int) (bs : List (List (Int × Int))) (th : Int) (w : World) (S1 : Sl w a n ws) (S2 : Sl w a' n' ts) (S : Bl w q l bs) (hh : hasB ws ts D bs th = true) :
    Calls Tryz.prog 25 #[.agg #[.slice a n c, .slice a' n' c', .int .i64 D, .slice q l d], .int .i64 th] w (RefTP (okL (flushTE ws ts D bs th) (flushTW ws bs th)) (okL (flushTE ws ts D bs th) ts) (okZ (flushTE ws ts D bs th) D) (okL (flushTE ws ts D bs th) (flushTB bs th)) (flushTE ws ts D bs th) w) := by
  have Hl := Lib.hid S.1
  obtain ⟨hm, h0, h1⟩ := hasB_parts hh
  obtain ⟨j, rfl⟩ := Int.eq_ofNat_of_zero_le h0
  have hjl : j < l := by rw [← Hl.out]; omega
  have hl8 : l ≤ 8 := by rw [← Hl.out]; exact (mayT_parts hm).2.1.2
  have i1 : (0 : Int) ≤ j := by omega
  have i2 : (j : Int) < l := by omega
  obtain ⟨ps, hps⟩ : ∃ ps, bs.getD j [] = ps := ⟨_, rfl⟩
  have hD8 : ps.length ≤ 8 := by have h2 := (mayT_parts hm).2.2.1.2; have h3 := ((mayT_parts hm).2.2.2 j (by omega)).1; rw [hps] at h3; omega
  have HE := Lib.hid (show flushTE ws ts D bs j = if ps = [] then 8 else usableZ ws ts (firstP ps).1 by rw [flushTE, if_pos hh, bufOf, Int.toNat_natCast, hps])
  have HTW := Lib.hid (show flushTW ws bs j = ws.set (firstP ps).1.toNat (firstP ps).2 by rw [flushTW, bufOf, Int.toNat_natCast, hps])
  have HTB := Lib.hid (show flushTB bs j = bs.set j (restP ps) by rw [flushTB, bufOf, Int.toNat_natCast, hps])
  have HM := Lib.hid (mayT_parts hm).1
  have HPS := Lib.hid hps
  have BQ := blP_old (Q := fun b => b < w.heap.size) (fun b h => h) S
  obtain ⟨W, hW⟩ : ∃ W, W = (w.alloc (Obj.cells #[.slice a n c, .slice a' n' c', .int .i64 D, .slice q l d] 46)).alloc (Obj.cells #[.slice none 0 0, .slice none 0 0, .int .i64 0, .slice none 0 0] 46) := ⟨_, rfl⟩
  have b0 : Below w.heap.size w W := by rw [hW]; go_grown
  have X : Var4 W w.heap.size (.slice a n c) (.slice a' n' c') (.int .i64 D) (.slice q l d) := by rw [hW]; exact var4_A _ (var4_new _ rfl)
  have R : Var4 W (w.heap.size + 1) (.slice none 0 0) (.slice none 0 0) (.int .i64 0) (.slice none 0 0) := by rw [hW]; exact var4_new _ (by simp)
  have T1 := slB b0 S1
  have T2 := slPB b0 (slP_old (Q := fun b => b < w.heap.size) (fun b h => h) S2)
  replace BQ := blPB b0 BQ
  have hz := var4_lt R
  obtain ⟨b, o, y, yc, rfl, k0, hcap, hp⟩ := blP_at BQ hjl
  rw [hps] at k0 hp hcap
  obtain ⟨m, hmm⟩ : ∃ m, ps.length = m := ⟨_, rfl⟩
  rw [hmm] at k0 hp hcap hD8
  have HPL := Lib.hid hmm
  have HBQ := Lib.hid BQ
  have HX := Lib.hid X
  have HRR := Lib.hid R
  have HB := Lib.hid b0
  have HW := Lib.hid hW
  have HP := Lib.hid hp
  clear hps hmm hcap BQ S b0 hW hp hh hm h0 h1
  go_enter Tryz.func25, Tryz.ntmps25
  go_upto_region 1 with fail
  rw [← HW.out]
  obtain ⟨⟨x0, x1, x2, x3⟩, -⟩ := X
  obtain ⟨⟨r0, r1, r2, r3⟩, f0, f1, f2, f3⟩ := R
  by_cases hne : ps = []
  · have HES := Lib.hid (show flushTE ws ts D bs j = 8 by rw [HE.out, if_pos hne])
    obtain rfl : 0 = m := by rw [← HPL.out, hne]; rfl
    have HZ := Lib.hid (var4_set HRR.out (.slice none 0 0) (.slice none 0 0) (.int .i64 0) (.slice none 0 0))
    clear hne
    go_wp2
    refine bp_cell_tmp ⟨w.heap.size + 1, 0, none⟩ rfl rfl rfl (load_tso' _ _ _ _ _ _ HZ.out.1.1 HZ.out.1.2.1 HZ.out.1.2.2.1 HZ.out.1.2.2.2) ?_
    rw [HES.out]
    exact refTP_no (by decide) (below_set4 (g := w.heap.size + 1) HB.out (by omega) _ _ _ _)
  · have hm0 : 0 < m := by rw [← HPL.out]; exact List.length_pos_iff.2 hne
    have q0 : ((m : Int) == 0) = false := by simp; omega
    obtain ⟨pb, po, rfl, _, PR⟩ := HP.out.2.resolve_left (by omega)
    have c0 := (PR 0 (by rw [HPL.out]; exact hm0)).1
    have c1 := (PR 0 (by rw [HPL.out]; exact hm0)).2
    obtain ⟨fp, hfp⟩ : ∃ z, firstP ps = z := ⟨_, rfl⟩
    have hfp' : ps.getD 0 (0, 0) = fp := hfp
    rw [hfp'] at c0 c1
    rw [hfp] at HE HTW
    obtain ⟨x, v⟩ := fp
    rw [Nat.zero_mul, Nat.add_zero] at c0 c1
    dsimp only at c0 c1 HE HTW
    have HNE := Lib.hid hne
    clear hfp hfp' PR hne
    obtain ⟨ev, hev⟩ : ∃ z, usableZ ws ts x = z := ⟨_, rfl⟩
    have HEV := Lib.hid hev
    have HES := Lib.hid (show flushTE ws ts D bs j = ev by rw [HE.out, if_neg HNE.out]; exact hev)
    clear hev
    go_upto_region 4 with fail
    go_cut [7, 8] (fun s7 s8 wx => FlushCut w.heap.size W (storeW ws ts x v) (storeT ws ts x) ev s7 s8 wx)
    case first =>
      have hB0 : Below W.heap.size W W.drew := (Below.refl _ _).drew
      have zA0 : (W.alloc (Obj.cells #[.slice none 0 0, .slice none 0 0] 43)).drew.cell? ⟨W.heap.size, 0, none⟩ = some (.slice none 0 0) := cell_new (w := W) _ _ _ rfl rfl
      have zA1 : (W.alloc (Obj.cells #[.slice none 0 0, .slice none 0 0] 43)).drew.cell? ⟨W.heap.size, 1, none⟩ = some (.slice none 0 0) := cell_new (w := W) _ _ _ rfl rfl
      have zA2 : (W.alloc (Obj.cells #[.slice none 0 0, .slice none 0 0] 43)).drew.frozen? ⟨W.heap.size, 0, none⟩ = false := frozen_new (w := W) _ _ rfl
      have zA3 : (W.alloc (Obj.cells #[.slice none 0 0, .slice none 0 0] 43)).drew.frozen? ⟨W.heap.size, 1, none⟩ = false := frozen_new (w := W) _ _ rfl
      have hBA : Below W.heap.size W (W.alloc (Obj.cells #[.slice none 0 0, .slice none 0 0] 43)).drew := ((Below.refl _ _).alloc (Nat.le_refl _) _).drew
      have x0a := cellA (Obj.cells #[.slice none 0 0, .slice none 0 0] 43) x0
      have x1a := cellA (Obj.cells #[.slice none 0 0, .slice none 0 0] 43) x1
      have c0a := cellA (Obj.cells #[.slice none 0 0, .slice none 0 0] 43) c0
      have c1a := cellA (Obj.cells #[.slice none 0 0, .slice none 0 0] 43) c1
      go_region_held3 (fun w' => (w'.cell? ⟨w.heap.size, 0, none⟩ = some (.slice a n c) ∧ w'.cell? ⟨w.heap.size, 1, none⟩ = some (.slice a' n' c')) ∧ w'.cell? ⟨pb, po, none⟩ = some (.int .i64 x) ∧ w'.cell? ⟨pb, po + 1, none⟩ = some (.int .i64 v))
        (first | exact ⟨⟨x0, x1⟩, c0, c1⟩ | exact ⟨⟨x0a, x1a⟩, c0a, c1a⟩ | (exact ⟨⟨cellB (by assumption) x0, cellB (by assumption) x1⟩, cellB (by assumption) c0, cellB (by assumption) c1⟩) | (exact ⟨⟨cellA _ (cellB (by assumption) x0), cellA _ (cellB (by assumption) x1)⟩, cellA _ (cellB (by assumption) c0), cellA _ (cellB (by assumption) c1)⟩) | (exact ⟨⟨set2_old (by assumption) x0, set2_old (by assumption) x1⟩, set2_old (by assumption) c0, set2_old (by assumption) c1⟩))
        ((go_at_call 46; refine (refStoreF_any w.heap.size a a' n c n' c' ws ts x v _ (slB (by assumption) T1) (slPB (by assumption) T2) HM.out).mono ?_; rw [HEV.out]; rintro e wx ⟨p, m1, d1, p', m2, d2, rfl, u1, u2, hbx⟩; have hbx' := below_from (by assumption) hbx; (try (have Y0 := cellB hbx zA0; have Y1 := cellB hbx zA1; have Y2 := frozenB hbx zA0 zA2; have Y3 := frozenB hbx zA1 zA3))))
      all_goals
        go_wp2_with fail
        go_meet
        first
          | exact flushCut_new hbx' u1 u2
          | exact flushCut_set (by omega) hbx' Y0 Y1 (slP_mono (fun b h => by simp at h; omega) u1) (slP_mono (fun b h => by simp at h; omega) u2)
    case rest =>
      obtain ⟨g, a2, n2, c2, a3, n3, c3, rfl, rfl, hgg, m0, m1, u1, u2, hbx⟩ := hcut
      have HBX := Lib.hid (below_from HB.out hbx)
      have hWc : W.heap.size ≤ wc.heap.size := hbx.size
      have RX := var4_B hbx HRR.out
      have XX := var4_B hbx HX.out
      have BX := blPB hbx HBQ.out
      clear x0 x1 x2 x3 r0 r1 r2 r3 f0 f1 f2 f3 T1 T2 k0 c0 c1
      by_cases he : ev = 0
      · subst he
        have HTS := Lib.hid (show storeW ws ts x v = flushTW ws bs j by rw [storeW, if_pos HEV.out, HTW.out])
        have HTT := Lib.hid (show storeT ws ts x = ts by rw [storeT, if_pos HEV.out])
        have hgW : w.heap.size + 1 < g := by omega
        obtain ⟨⟨x0, x1, x2, x3⟩, h0, h1, h2, h3⟩ := id XX
        have HXX := Lib.hid XX
        have HRX := Lib.hid RX
        have HBX2 := Lib.hid (blP_mono (Q' := fun b => b ≠ w.heap.size ∧ b ≠ w.heap.size + 1) (fun b h => by omega) BX)
        clear XX RX BX
        go_wp2_with fail
        refine (refDropT_any a a' (some ⟨b, o, none⟩) n c n' c' l d D bs j _ (fun b => b ≠ w.heap.size ∧ b ≠ w.heap.size + 1) HBX2.out hjl hl8 (by rw [HPS.out, HPL.out]; exact hD8) (fun b h => by omega)).mono ?_
        rintro e w3 ⟨r5, f5, rfl, u5, hb3⟩
        rw [HPS.out] at u5
        obtain ⟨Z1, hZ1⟩ : ∃ Z, Z = (((w3.setCell ⟨w.heap.size, 0, none⟩ (.slice a n c)).setCell ⟨w.heap.size, 1, none⟩ (.slice a' n' c')).setCell ⟨w.heap.size, 2, none⟩ (.int .i64 D)).setCell ⟨w.heap.size, 3, none⟩ (.slice r5 l f5) := ⟨_, rfl⟩
        have X3 := var4_B hb3 HXX.out
        have R3 := var4_B hb3 HRX.out
        have X4 : Var4 Z1 w.heap.size (.slice a n c) (.slice a' n' c') (.int .i64 D) (.slice r5 l f5) := by rw [hZ1]; exact var4_set X3 _ _ _ _
        have R4 : Var4 Z1 (w.heap.size + 1) (.slice none 0 0) (.slice none 0 0) (.int .i64 0) (.slice none 0 0) := by rw [hZ1]; exact var4_other (var4_other (var4_other (var4_other R3 (by omega) _) (by omega) _) (by omega) _) (by omega) _
        have k1 : ∀ (b o : Nat) (u : Value), b ≠ w.heap.size → w3.cell? ⟨b, o, none⟩ = some u → Z1.cell? ⟨b, o, none⟩ = some u := by
          intro b o u hb hu
          rw [hZ1]
          exact keep_set (Q := fun b => b ≠ w.heap.size) (fun _ h => h) _ _ _ hb (keep_set (Q := fun b => b ≠ w.heap.size) (fun _ h => h) _ _ _ hb (keep_set (Q := fun b => b ≠ w.heap.size) (fun _ h => h) _ _ _ hb (keep_set (Q := fun b => b ≠ w.heap.size) (fun _ h => h) _ _ _ hb hu)))
        have m0' := k1 _ _ _ (by omega) (cellB hb3 m0)
        have m1' := k1 _ _ _ (by omega) (cellB hb3 m1)
        have B1 : Below w.heap.size w Z1 := by rw [hZ1]; exact below_set4 (below_from HBX.out hb3) (Nat.le_refl _) _ _ _ _
        obtain ⟨Z2, hZ2⟩ : ∃ Z, Z = (Z1.setCell ⟨w.heap.size, 0, none⟩ (.slice a2 n2 c2)).setCell ⟨w.heap.size, 1, none⟩ (.slice a3 n3 c3) := ⟨_, rfl⟩
        have X5 : Var4 Z2 w.heap.size (.slice a2 n2 c2) (.slice a3 n3 c3) (.int .i64 D) (.slice r5 l f5) := by rw [hZ2]; exact var4_set01 X4 _ _
        have R5 : Var4 Z2 (w.heap.size + 1) (.slice none 0 0) (.slice none 0 0) (.int .i64 0) (.slice none 0 0) := by rw [hZ2]; exact var4_other (var4_other R4 (by omega) _) (by omega) _
        have B2 : Below w.heap.size w Z2 := by rw [hZ2]; exact (B1.setCell (p := ⟨w.heap.size, 0, none⟩) (Nat.le_refl _) _).setCell (p := ⟨w.heap.size, 1, none⟩) (Nat.le_refl _) _
        have k2 : ∀ (b o : Nat) (u : Value), b ≠ w.heap.size → w3.cell? ⟨b, o, none⟩ = some u → Z2.cell? ⟨b, o, none⟩ = some u := by
          intro b o u hb hu
          rw [hZ2]
          exact keep_set (Q := fun b => b ≠ w.heap.size) (fun _ h => h) _ _ _ hb (keep_set (Q := fun b => b ≠ w.heap.size) (fun _ h => h) _ _ _ hb (k1 _ _ _ hb hu))
        have H6 := Lib.hid (var4_set R5 (.slice a2 n2 c2) (.slice a3 n3 c3) (.int .i64 D) (.slice r5 l f5))
        have HZ1 := Lib.hid hZ1
        have HZ2 := Lib.hid hZ2
        have HB2 := Lib.hid B2
        have kq : ∀ (b o : Nat) (u : Value), (b ≠ w.heap.size ∧ b ≠ w.heap.size + 1) → w3.cell? ⟨b, o, none⟩ = some u → ((((Z2.setCell ⟨w.heap.size + 1, 0, none⟩ (.slice a2 n2 c2)).setCell ⟨w.heap.size + 1, 1, none⟩ (.slice a3 n3 c3)).setCell ⟨w.heap.size + 1, 2, none⟩ (.int .i64 D)).setCell ⟨w.heap.size + 1, 3, none⟩ (.slice r5 l f5)).cell? ⟨b, o, none⟩ = some u := fun b o u hq hu =>
          keep_set (Q := fun b => b ≠ w.heap.size + 1) (fun _ h => h) _ _ _ hq.2 (keep_set (Q := fun b => b ≠ w.heap.size + 1) (fun _ h => h) _ _ _ hq.2 (keep_set (Q := fun b => b ≠ w.heap.size + 1) (fun _ h => h) _ _ _ hq.2 (keep_set (Q := fun b => b ≠ w.heap.size + 1) (fun _ h => h) _ _ _ hq.2 (k2 _ _ _ hq.1 hu))))
        have V1 := Lib.hid (slP_keep kq (slPB hb3 (slP_mono (fun b h => by omega) u1))).sl
        have V2 := Lib.hid (slP_keep kq (slPB hb3 (slP_mono (fun b h => by omega) u2))).sl
        have V3 := Lib.hid (blP_keep kq u5).bl
        obtain ⟨⟨y0, y1, y2, y3⟩, y4, y5, y6, y7⟩ := X3
        clear kq k1 k2 B1 B2 hZ1 hZ2 u1 u2 u5 hb3 R3 R4 m0 m1 x0 x1 x2 x3 h0 h1 h2 h3 hbx
        go_upto_region 8 with fail
        rw [← HZ1.out]
        clear y0 y1 y2 y3 y4 y5 y6 y7
        obtain ⟨⟨y0, y1, y2, y3⟩, y4, y5, y6, y7⟩ := X4
        go_upto_region 9 with fail
        rw [← HZ2.out]
        clear y0 y1 y2 y3 y4 y5 y6 y7 m0' m1'
        obtain ⟨⟨y0, y1, y2, y3⟩, -⟩ := X5
        obtain ⟨⟨s0, s1, s2, s3⟩, t0, t1, t2, t3⟩ := R5
        go_wp2
        refine bp_cell_tmp ⟨w.heap.size + 1, 0, none⟩ rfl rfl rfl (load_tso' _ _ _ _ _ _ H6.out.1.1 H6.out.1.2.1 H6.out.1.2.2.1 H6.out.1.2.2.2) ?_
        have hbf := below_set4 (g := w.heap.size + 1) HB2.out (by omega) (.slice a2 n2 c2) (.slice a3 n3 c3) (.int .i64 D) (.slice r5 l f5)
        refine refTP_yes HES.out ?_ ?_ ?_ hbf
        · rw [← HTS.out]; exact V1.out
        · have := V2.out; rw [HTT.out] at this; exact this
        · rw [HTB.out]; exact V3.out
      · have q1 : (ev != 0) = true := by simpa using he
        have HEN := Lib.hid he
        have HZ := Lib.hid (var4_set RX (.slice none 0 0) (.slice none 0 0) (.int .i64 0) (.slice none 0 0))
        obtain ⟨⟨s0, s1, s2, s3⟩, t0, t1, t2, t3⟩ := RX
        clear he XX BX u1 u2 m0 m1 hbx
        go_wp2
        refine bp_cell_tmp ⟨w.heap.size + 1, 0, none⟩ rfl rfl rfl (load_tso' _ _ _ _ _ _ HZ.out.1.1 HZ.out.1.2.1 HZ.out.1.2.2.1 HZ.out.1.2.2.2) ?_
        rw [HES.out]
        exact refTP_no HEN.out (below_set4 (g := w.heap.size + 1) HBX.out (by omega) _ _ _ _)
end Go.Proofs.YtiebaeaomgpicaaGreat
/- Contracts of the document's own answers of layer 3 (package respiteref03): Locked. -/
namespace Go.Proofs.YtiebaeaomgpicaaGreat
open Go.ChangeShapes Go.WideShapes Go.ChangeAt Go.RowKit

/-- a machine, a word and an error -/
def RefLP (ws ts : List Int) (D : Int) (bs : List (List (Int × Int))) (v x : Int) (w : World) (e : Ending) (w' : World) : Prop :=
  ∃ a n c a' n' c' q l d, e = .returned (.tuple #[.agg #[.slice a n c, .slice a' n' c', .int .i64 D, .slice q l d], .int .i64 v, .int .i64 x]) ∧ Sl w' a n ws ∧ Sl w' a' n' ts ∧ Bl w' q l bs ∧ Below w.heap.size w w'
theorem refLP_no {A B : List Int} {z u E : Int} {C : List (List (Int × Int))} (he : E ≠ 0) {w w' : World} (hb : Below w.heap.size w w') : RefLP (okL E A) (okL E B) (okZ E z) (okL E C) (okZ E u) E w (.returned (.tuple #[.agg #[.slice none 0 0, .slice none 0 0, .int .i64 0, .slice none 0 0], .int .i64 0, .int .i64 E])) w' := by
  rw [okL_neg he, okL_neg he, okZ_neg he, okL_neg he, okZ_neg he]
  exact ⟨_, _, _, _, _, _, _, _, _, rfl, sl_nil _, sl_nil _, bl_nil _, hb⟩
theorem refLP_yes {A B : List Int} {z u E : Int} {C : List (List (Int × Int))} (he : E = 0) {w w' : World} {a a' q : Option Addr} {n c n' c' l d : Nat} (s1 : Sl w' a n A) (s2 : Sl w' a' n' B) (s3 : Bl w' q l C) (hb : Below w.heap.size w w') :
    RefLP (okL E A) (okL E B) (okZ E z) (okL E C) (okZ E u) E w (.returned (.tuple #[.agg #[.slice a n c, .slice a' n' c', .int .i64 z, .slice q l d], .int .i64 u, .int .i64 0])) w' := by
  subst he
  exact ⟨_, _, _, _, _, _, _, _, _, rfl, s1, s2, s3, hb⟩

set_option maxRecDepth 100000 in
set_option maxHeartbeats 8000000 in
theorem refLockedT_any (a a' q : Option Addr) (n c n' c' l d : Nat) (ws ts : List Int) (D : Int) (bs : List (List (Int × Int))) (th k x y z : Int) (w : World) (S1 : Sl w a n ws) (S2 : Sl w a' n' ts) (S : Bl w q l bs) (hh : hasB ws ts D bs th = true) (hk : kindB k = true) :
    Calls Tryz.prog 53 #[.agg #[.slice a n c, .slice a' n' c', .int .i64 D, .slice q l d], .int .i64 th, .int .i64 k, .int .i64 x, .int .i64 y, .int .i64 z] w (RefLP (okL (lockTE ws ts D bs th k x) (lockTW ws ts k x y z)) (okL (lockTE ws ts D bs th k x) ts) (okZ (lockTE ws ts D bs th k x) D) (okL (lockTE ws ts D bs th k x) bs) (okZ (lockTE ws ts D bs th k x) (loadZ ws ts x)) (lockTE ws ts D bs th k x) w) := by
  have Hl := Lib.hid S.1
  obtain ⟨hm, h0, h1⟩ := hasB_parts hh
  obtain ⟨j, rfl⟩ := Int.eq_ofNat_of_zero_le h0
  have hjl : j < l := by rw [← Hl.out]; omega
  have i1 : (0 : Int) ≤ j := by omega
  have i2 : (j : Int) < l := by omega
  obtain ⟨ps, hps⟩ : ∃ ps, bs.getD j [] = ps := ⟨_, rfl⟩
  have HE := Lib.hid (show lockTE ws ts D bs j k x = if ps = [] then usableZ ws ts x else 9 by rw [lockTE, if_pos ⟨hh, hk⟩, bufOf, Int.toNat_natCast, hps])
  have HM := Lib.hid (mayT_parts hm).1
  have hkk : k = 0 ∨ k = 1 ∨ k = 2 := by simp only [kindB, decide_eq_true_eq] at hk; omega
  obtain ⟨W, hW⟩ : ∃ W, W = (w.alloc (Obj.cells #[.slice a n c, .slice a' n' c', .int .i64 D, .slice q l d] 46)).alloc (Obj.cells #[.slice none 0 0, .slice none 0 0, .int .i64 0, .slice none 0 0] 46) := ⟨_, rfl⟩
  have b0 : Below w.heap.size w W := by rw [hW]; go_grown
  have X : Var4 W w.heap.size (.slice a n c) (.slice a' n' c') (.int .i64 D) (.slice q l d) := by rw [hW]; exact var4_A _ (var4_new _ rfl)
  have R : Var4 W (w.heap.size + 1) (.slice none 0 0) (.slice none 0 0) (.int .i64 0) (.slice none 0 0) := by rw [hW]; exact var4_new _ (by simp)
  have T1 := slB b0 S1
  have T2 := slPB b0 (slP_old (Q := fun b => b ≠ w.heap.size ∧ b ≠ w.heap.size + 1) (fun b h => by omega) S2)
  have hz := var4_lt R
  obtain ⟨b, o, p, pc, rfl, k0, hcap, hp⟩ := bl_at S hjl
  replace k0 := cellB b0 k0
  rw [hps] at k0
  obtain ⟨m, hmm⟩ : ∃ m, ps.length = m := ⟨_, rfl⟩
  rw [hmm] at k0
  have HPL := Lib.hid hmm
  have HB := Lib.hid b0
  have HW := Lib.hid hW
  have HRR := Lib.hid R
  have HX := Lib.hid X
  clear hps hmm hcap hp b0 hW hh hm h0 h1 hk
  go_enter Tryz.func53, Tryz.ntmps53
  go_upto_region 1 with fail
  rw [← HW.out]
  obtain ⟨⟨x0, x1, x2, x3⟩, -⟩ := id X
  obtain ⟨⟨r0, r1, r2, r3⟩, f0, f1, f2, f3⟩ := id R
  by_cases hne : ps = []
  · have HNE := Lib.hid hne
    obtain rfl : 0 = m := by rw [← HPL.out, hne]; rfl
    clear hne
    go_wp2_with fail
    refine (refLoad_any a a' n c n' c' ws ts x _ T1 T2.sl HM.out).mono ?_
    rintro e w1 ⟨rfl, hb⟩
    obtain ⟨ev, hev⟩ : ∃ z, usableZ ws ts x = z := ⟨_, rfl⟩
    obtain ⟨lv, hlv⟩ : ∃ z, loadZ ws ts x = z := ⟨_, rfl⟩
    have HEV := Lib.hid hev
    have HLV := Lib.hid hlv
    rw [hev, hlv]
    replace R := var4_B hb R
    replace X := var4_B hb X
    replace T1 := slB hb T1
    replace T2 := slPB hb T2
    have HB1 := Lib.hid (below_from HB.out hb)
    have hz1 : W.heap.size ≤ w1.heap.size := hb.size
    have HES := Lib.hid (show lockTE ws ts D bs j k x = ev by rw [HE.out, if_pos HNE.out, hev])
    clear hb hev hlv x0 x1 x2 x3 r0 r1 r2 r3 f0 f1 f2 f3 k0
    by_cases he : ev = 0
    · subst he
      obtain ⟨⟨x0, x1, x2, x3⟩, g0, g1, g2, g3⟩ := id X
      have HX1 := Lib.hid X
      have HR1 := Lib.hid R
      clear X R
      obtain ⟨nv, hnv⟩ : ∃ nv, lockV k lv y z = nv := ⟨_, rfl⟩
      have HNV := Lib.hid hnv
      have hcases : (k = 0 ∧ lv = y ∧ nv = z) ∨ (k = 0 ∧ lv ≠ y ∧ nv = lv) ∨ (k = 1 ∧ nv = y) ∨ (k = 2 ∧ nv = wrap64 (lv + y)) := by
        rcases hkk with rfl | rfl | rfl
        · rw [lockV, if_pos rfl] at hnv
          by_cases e : lv = y
          · rw [if_pos e] at hnv; exact .inl ⟨rfl, e, hnv.symm⟩
          · rw [if_neg e] at hnv; exact .inr (.inl ⟨rfl, e, hnv.symm⟩)
        · rw [lockV, if_neg (by decide), if_pos rfl] at hnv
          exact .inr (.inr (.inl ⟨rfl, hnv.symm⟩))
        · rw [lockV, if_neg (by decide), if_neg (by decide)] at hnv
          exact .inr (.inr (.inr ⟨rfl, hnv.symm.trans (IntWalk.i64_left _)⟩))
      clear hkk hnv
      have hQ : ∀ b, w1.heap.size ≤ b → b ≠ w.heap.size ∧ b ≠ w.heap.size + 1 := fun b h => by omega
      have HQ := Lib.hid hQ
      clear hQ
      rcases hcases with ⟨rfl, rfl, rfl⟩ | ⟨rfl, hw, rfl⟩ | ⟨rfl, rfl⟩ | ⟨rfl, hw⟩
      · have q1 : (lv == lv) = true := by simp
        go_wp2_with fail
        have h0 := refStoreQ_any (fun b => b ≠ w.heap.size ∧ b ≠ w.heap.size + 1) a a' n c n' c' ws ts x nv w1 T1 T2 HQ.out HM.out
        with_reducible refine h0.mono ?_
        clear h0
        rw [HEV.out]
        rintro e w3 ⟨a2, n2, c2, a3, n3, c3, rfl, u1, u2, hb3⟩
        have HTS := Lib.hid (show storeW ws ts x nv = lockTW ws ts 0 x lv nv by rw [storeW, if_pos HEV.out, lockTW, HLV.out, HNV.out])
        have HTT := Lib.hid (show storeT ws ts x = ts by rw [storeT, if_pos HEV.out])
        rw [HTS.out] at u1
        rw [HTT.out] at u2
        obtain ⟨Z0, hZ0⟩ : ∃ Z, Z = w3.alloc (Obj.cells #[.slice a2 n2 c2, .slice a3 n3 c3] 43) := ⟨_, rfl⟩
        have bz : Below w1.heap.size w1 Z0 := by rw [hZ0]; exact hb3.alloc hb3.size _
        have b3 : Below w3.heap.size w3 Z0 := by rw [hZ0]; exact (Below.refl _ _).alloc (Nat.le_refl _) _
        have m0 : Z0.cell? ⟨w3.heap.size, 0, none⟩ = some (.slice a2 n2 c2) := by rw [hZ0]; exact cell_new _ _ _ rfl rfl
        have m1 : Z0.cell? ⟨w3.heap.size, 1, none⟩ = some (.slice a3 n3 c3) := by rw [hZ0]; exact cell_new _ _ _ rfl rfl
        have X3 := var4_B bz HX1.out
        have R3 := var4_B bz HR1.out
        obtain ⟨Z2, hZ2⟩ : ∃ Z, Z = (Z0.setCell ⟨w.heap.size, 0, none⟩ (.slice a2 n2 c2)).setCell ⟨w.heap.size, 1, none⟩ (.slice a3 n3 c3) := ⟨_, rfl⟩
        have X5 : Var4 Z2 w.heap.size (.slice a2 n2 c2) (.slice a3 n3 c3) (.int .i64 D) (.slice (some ⟨b, o, none⟩) l d) := by rw [hZ2]; exact var4_set01 X3 _ _
        have R5 : Var4 Z2 (w.heap.size + 1) (.slice none 0 0) (.slice none 0 0) (.int .i64 0) (.slice none 0 0) := by rw [hZ2]; exact var4_other (var4_other R3 (by omega) _) (by omega) _
        have B2 : Below w.heap.size w Z2 := by rw [hZ2]; exact ((below_from HB1.out bz).setCell (p := ⟨w.heap.size, 0, none⟩) (Nat.le_refl _) _).setCell (p := ⟨w.heap.size, 1, none⟩) (Nat.le_refl _) _
        have H6 := Lib.hid (var4_set R5 (.slice a2 n2 c2) (.slice a3 n3 c3) (.int .i64 D) (.slice (some ⟨b, o, none⟩) l d))
        have kq : ∀ (b1 o1 : Nat) (u : Value), (b1 ≠ w.heap.size ∧ b1 ≠ w.heap.size + 1) → w3.cell? ⟨b1, o1, none⟩ = some u → ((((Z2.setCell ⟨w.heap.size + 1, 0, none⟩ (.slice a2 n2 c2)).setCell ⟨w.heap.size + 1, 1, none⟩ (.slice a3 n3 c3)).setCell ⟨w.heap.size + 1, 2, none⟩ (.int .i64 D)).setCell ⟨w.heap.size + 1, 3, none⟩ (.slice (some ⟨b, o, none⟩) l d)).cell? ⟨b1, o1, none⟩ = some u := fun b1 o1 u hq hu => by
          have k2 : Z2.cell? ⟨b1, o1, none⟩ = some u := by
            rw [hZ2]
            exact keep_set (Q := fun b => b ≠ w.heap.size) (fun _ h => h) _ _ _ hq.1 (keep_set (Q := fun b => b ≠ w.heap.size) (fun _ h => h) _ _ _ hq.1 (cellB b3 hu))
          exact keep_set (Q := fun b => b ≠ w.heap.size + 1) (fun _ h => h) _ _ _ hq.2 (keep_set (Q := fun b => b ≠ w.heap.size + 1) (fun _ h => h) _ _ _ hq.2 (keep_set (Q := fun b => b ≠ w.heap.size + 1) (fun _ h => h) _ _ _ hq.2 (keep_set (Q := fun b => b ≠ w.heap.size + 1) (fun _ h => h) _ _ _ hq.2 k2)))
        have V1 := Lib.hid (slP_keep kq u1).sl
        have V2 := Lib.hid (slP_keep kq u2).sl
        have HB2 := Lib.hid B2
        have HZ0 := Lib.hid hZ0
        have HZ2 := Lib.hid hZ2
        obtain ⟨⟨y0, y1, y2, y3⟩, y4, y5, y6, y7⟩ := X3
        clear kq B2 hZ0 hZ2 u1 u2 hb3 b3 bz R3 x0 x1 x2 x3 g0 g1 g2 g3 T1 T2
        go_upto_region 14 with fail
        rw [← HZ0.out]
        go_upto_region 15 with fail
        rw [← HZ2.out]
        clear y0 y1 y2 y3 y4 y5 y6 y7 m0 m1
        obtain ⟨⟨y0, y1, y2, y3⟩, -⟩ := X5
        obtain ⟨⟨s0, s1, s2, s3⟩, t0, t1, t2, t3⟩ := R5
        go_wp2
        refine bp_cell_tmp2 ⟨w.heap.size + 1, 0, none⟩ rfl rfl rfl (load_tso' _ _ _ _ _ _ H6.out.1.1 H6.out.1.2.1 H6.out.1.2.2.1 H6.out.1.2.2.2) ?_
        have hbf := below_set4 (g := w.heap.size + 1) HB2.out (by omega) (.slice a2 n2 c2) (.slice a3 n3 c3) (.int .i64 D) (.slice (some ⟨b, o, none⟩) l d)
        rw [HLV.out]
        exact refLP_yes HES.out V1.out V2.out (blB hbf S) hbf
      · have q1 : (nv == y) = false := by simpa using hw
        clear hw
        go_wp2_with fail
        have h0 := refStoreQ_any (fun b => b ≠ w.heap.size ∧ b ≠ w.heap.size + 1) a a' n c n' c' ws ts x nv w1 T1 T2 HQ.out HM.out
        with_reducible refine h0.mono ?_
        clear h0
        rw [HEV.out]
        rintro e w3 ⟨a2, n2, c2, a3, n3, c3, rfl, u1, u2, hb3⟩
        have HTS := Lib.hid (show storeW ws ts x nv = lockTW ws ts 0 x y z by rw [storeW, if_pos HEV.out, lockTW, HLV.out, HNV.out])
        have HTT := Lib.hid (show storeT ws ts x = ts by rw [storeT, if_pos HEV.out])
        rw [HTS.out] at u1
        rw [HTT.out] at u2
        obtain ⟨Z0, hZ0⟩ : ∃ Z, Z = w3.alloc (Obj.cells #[.slice a2 n2 c2, .slice a3 n3 c3] 43) := ⟨_, rfl⟩
        have bz : Below w1.heap.size w1 Z0 := by rw [hZ0]; exact hb3.alloc hb3.size _
        have b3 : Below w3.heap.size w3 Z0 := by rw [hZ0]; exact (Below.refl _ _).alloc (Nat.le_refl _) _
        have m0 : Z0.cell? ⟨w3.heap.size, 0, none⟩ = some (.slice a2 n2 c2) := by rw [hZ0]; exact cell_new _ _ _ rfl rfl
        have m1 : Z0.cell? ⟨w3.heap.size, 1, none⟩ = some (.slice a3 n3 c3) := by rw [hZ0]; exact cell_new _ _ _ rfl rfl
        have X3 := var4_B bz HX1.out
        have R3 := var4_B bz HR1.out
        obtain ⟨Z2, hZ2⟩ : ∃ Z, Z = (Z0.setCell ⟨w.heap.size, 0, none⟩ (.slice a2 n2 c2)).setCell ⟨w.heap.size, 1, none⟩ (.slice a3 n3 c3) := ⟨_, rfl⟩
        have X5 : Var4 Z2 w.heap.size (.slice a2 n2 c2) (.slice a3 n3 c3) (.int .i64 D) (.slice (some ⟨b, o, none⟩) l d) := by rw [hZ2]; exact var4_set01 X3 _ _
        have R5 : Var4 Z2 (w.heap.size + 1) (.slice none 0 0) (.slice none 0 0) (.int .i64 0) (.slice none 0 0) := by rw [hZ2]; exact var4_other (var4_other R3 (by omega) _) (by omega) _
        have B2 : Below w.heap.size w Z2 := by rw [hZ2]; exact ((below_from HB1.out bz).setCell (p := ⟨w.heap.size, 0, none⟩) (Nat.le_refl _) _).setCell (p := ⟨w.heap.size, 1, none⟩) (Nat.le_refl _) _
        have H6 := Lib.hid (var4_set R5 (.slice a2 n2 c2) (.slice a3 n3 c3) (.int .i64 D) (.slice (some ⟨b, o, none⟩) l d))
        have kq : ∀ (b1 o1 : Nat) (u : Value), (b1 ≠ w.heap.size ∧ b1 ≠ w.heap.size + 1) → w3.cell? ⟨b1, o1, none⟩ = some u → ((((Z2.setCell ⟨w.heap.size + 1, 0, none⟩ (.slice a2 n2 c2)).setCell ⟨w.heap.size + 1, 1, none⟩ (.slice a3 n3 c3)).setCell ⟨w.heap.size + 1, 2, none⟩ (.int .i64 D)).setCell ⟨w.heap.size + 1, 3, none⟩ (.slice (some ⟨b, o, none⟩) l d)).cell? ⟨b1, o1, none⟩ = some u := fun b1 o1 u hq hu => by
          have k2 : Z2.cell? ⟨b1, o1, none⟩ = some u := by
            rw [hZ2]
            exact keep_set (Q := fun b => b ≠ w.heap.size) (fun _ h => h) _ _ _ hq.1 (keep_set (Q := fun b => b ≠ w.heap.size) (fun _ h => h) _ _ _ hq.1 (cellB b3 hu))
          exact keep_set (Q := fun b => b ≠ w.heap.size + 1) (fun _ h => h) _ _ _ hq.2 (keep_set (Q := fun b => b ≠ w.heap.size + 1) (fun _ h => h) _ _ _ hq.2 (keep_set (Q := fun b => b ≠ w.heap.size + 1) (fun _ h => h) _ _ _ hq.2 (keep_set (Q := fun b => b ≠ w.heap.size + 1) (fun _ h => h) _ _ _ hq.2 k2)))
        have V1 := Lib.hid (slP_keep kq u1).sl
        have V2 := Lib.hid (slP_keep kq u2).sl
        have HB2 := Lib.hid B2
        have HZ0 := Lib.hid hZ0
        have HZ2 := Lib.hid hZ2
        obtain ⟨⟨y0, y1, y2, y3⟩, y4, y5, y6, y7⟩ := X3
        clear kq B2 hZ0 hZ2 u1 u2 hb3 b3 bz R3 x0 x1 x2 x3 g0 g1 g2 g3 T1 T2
        go_upto_region 14 with fail
        rw [← HZ0.out]
        go_upto_region 15 with fail
        rw [← HZ2.out]
        clear y0 y1 y2 y3 y4 y5 y6 y7 m0 m1
        obtain ⟨⟨y0, y1, y2, y3⟩, -⟩ := X5
        obtain ⟨⟨s0, s1, s2, s3⟩, t0, t1, t2, t3⟩ := R5
        go_wp2
        refine bp_cell_tmp2 ⟨w.heap.size + 1, 0, none⟩ rfl rfl rfl (load_tso' _ _ _ _ _ _ H6.out.1.1 H6.out.1.2.1 H6.out.1.2.2.1 H6.out.1.2.2.2) ?_
        have hbf := below_set4 (g := w.heap.size + 1) HB2.out (by omega) (.slice a2 n2 c2) (.slice a3 n3 c3) (.int .i64 D) (.slice (some ⟨b, o, none⟩) l d)
        rw [HLV.out]
        exact refLP_yes HES.out V1.out V2.out (blB hbf S) hbf
      · go_wp2_with fail
        have h0 := refStoreQ_any (fun b => b ≠ w.heap.size ∧ b ≠ w.heap.size + 1) a a' n c n' c' ws ts x nv w1 T1 T2 HQ.out HM.out
        with_reducible refine h0.mono ?_
        clear h0
        rw [HEV.out]
        rintro e w3 ⟨a2, n2, c2, a3, n3, c3, rfl, u1, u2, hb3⟩
        have HTS := Lib.hid (show storeW ws ts x nv = lockTW ws ts 1 x nv z by rw [storeW, if_pos HEV.out, lockTW, HLV.out, HNV.out])
        have HTT := Lib.hid (show storeT ws ts x = ts by rw [storeT, if_pos HEV.out])
        rw [HTS.out] at u1
        rw [HTT.out] at u2
        obtain ⟨Z0, hZ0⟩ : ∃ Z, Z = w3.alloc (Obj.cells #[.slice a2 n2 c2, .slice a3 n3 c3] 43) := ⟨_, rfl⟩
        have bz : Below w1.heap.size w1 Z0 := by rw [hZ0]; exact hb3.alloc hb3.size _
        have b3 : Below w3.heap.size w3 Z0 := by rw [hZ0]; exact (Below.refl _ _).alloc (Nat.le_refl _) _
        have m0 : Z0.cell? ⟨w3.heap.size, 0, none⟩ = some (.slice a2 n2 c2) := by rw [hZ0]; exact cell_new _ _ _ rfl rfl
        have m1 : Z0.cell? ⟨w3.heap.size, 1, none⟩ = some (.slice a3 n3 c3) := by rw [hZ0]; exact cell_new _ _ _ rfl rfl
        have X3 := var4_B bz HX1.out
        have R3 := var4_B bz HR1.out
        obtain ⟨Z2, hZ2⟩ : ∃ Z, Z = (Z0.setCell ⟨w.heap.size, 0, none⟩ (.slice a2 n2 c2)).setCell ⟨w.heap.size, 1, none⟩ (.slice a3 n3 c3) := ⟨_, rfl⟩
        have X5 : Var4 Z2 w.heap.size (.slice a2 n2 c2) (.slice a3 n3 c3) (.int .i64 D) (.slice (some ⟨b, o, none⟩) l d) := by rw [hZ2]; exact var4_set01 X3 _ _
        have R5 : Var4 Z2 (w.heap.size + 1) (.slice none 0 0) (.slice none 0 0) (.int .i64 0) (.slice none 0 0) := by rw [hZ2]; exact var4_other (var4_other R3 (by omega) _) (by omega) _
        have B2 : Below w.heap.size w Z2 := by rw [hZ2]; exact ((below_from HB1.out bz).setCell (p := ⟨w.heap.size, 0, none⟩) (Nat.le_refl _) _).setCell (p := ⟨w.heap.size, 1, none⟩) (Nat.le_refl _) _
        have H6 := Lib.hid (var4_set R5 (.slice a2 n2 c2) (.slice a3 n3 c3) (.int .i64 D) (.slice (some ⟨b, o, none⟩) l d))
        have kq : ∀ (b1 o1 : Nat) (u : Value), (b1 ≠ w.heap.size ∧ b1 ≠ w.heap.size + 1) → w3.cell? ⟨b1, o1, none⟩ = some u → ((((Z2.setCell ⟨w.heap.size + 1, 0, none⟩ (.slice a2 n2 c2)).setCell ⟨w.heap.size + 1, 1, none⟩ (.slice a3 n3 c3)).setCell ⟨w.heap.size + 1, 2, none⟩ (.int .i64 D)).setCell ⟨w.heap.size + 1, 3, none⟩ (.slice (some ⟨b, o, none⟩) l d)).cell? ⟨b1, o1, none⟩ = some u := fun b1 o1 u hq hu => by
          have k2 : Z2.cell? ⟨b1, o1, none⟩ = some u := by
            rw [hZ2]
            exact keep_set (Q := fun b => b ≠ w.heap.size) (fun _ h => h) _ _ _ hq.1 (keep_set (Q := fun b => b ≠ w.heap.size) (fun _ h => h) _ _ _ hq.1 (cellB b3 hu))
          exact keep_set (Q := fun b => b ≠ w.heap.size + 1) (fun _ h => h) _ _ _ hq.2 (keep_set (Q := fun b => b ≠ w.heap.size + 1) (fun _ h => h) _ _ _ hq.2 (keep_set (Q := fun b => b ≠ w.heap.size + 1) (fun _ h => h) _ _ _ hq.2 (keep_set (Q := fun b => b ≠ w.heap.size + 1) (fun _ h => h) _ _ _ hq.2 k2)))
        have V1 := Lib.hid (slP_keep kq u1).sl
        have V2 := Lib.hid (slP_keep kq u2).sl
        have HB2 := Lib.hid B2
        have HZ0 := Lib.hid hZ0
        have HZ2 := Lib.hid hZ2
        obtain ⟨⟨y0, y1, y2, y3⟩, y4, y5, y6, y7⟩ := X3
        clear kq B2 hZ0 hZ2 u1 u2 hb3 b3 bz R3 x0 x1 x2 x3 g0 g1 g2 g3 T1 T2
        go_upto_region 14 with fail
        rw [← HZ0.out]
        go_upto_region 15 with fail
        rw [← HZ2.out]
        clear y0 y1 y2 y3 y4 y5 y6 y7 m0 m1
        obtain ⟨⟨y0, y1, y2, y3⟩, -⟩ := X5
        obtain ⟨⟨s0, s1, s2, s3⟩, t0, t1, t2, t3⟩ := R5
        go_wp2
        refine bp_cell_tmp2 ⟨w.heap.size + 1, 0, none⟩ rfl rfl rfl (load_tso' _ _ _ _ _ _ H6.out.1.1 H6.out.1.2.1 H6.out.1.2.2.1 H6.out.1.2.2.2) ?_
        have hbf := below_set4 (g := w.heap.size + 1) HB2.out (by omega) (.slice a2 n2 c2) (.slice a3 n3 c3) (.int .i64 D) (.slice (some ⟨b, o, none⟩) l d)
        rw [HLV.out]
        exact refLP_yes HES.out V1.out V2.out (blB hbf S) hbf
      · subst hw
        go_wp2_with fail
        have h0 := refStoreQ_any (fun b => b ≠ w.heap.size ∧ b ≠ w.heap.size + 1) a a' n c n' c' ws ts x (wrap64 (lv + y)) w1 T1 T2 HQ.out HM.out
        with_reducible refine h0.mono ?_
        clear h0
        rw [HEV.out]
        rintro e w3 ⟨a2, n2, c2, a3, n3, c3, rfl, u1, u2, hb3⟩
        have HTS := Lib.hid (show storeW ws ts x (wrap64 (lv + y)) = lockTW ws ts 2 x y z by rw [storeW, if_pos HEV.out, lockTW, HLV.out, HNV.out])
        have HTT := Lib.hid (show storeT ws ts x = ts by rw [storeT, if_pos HEV.out])
        rw [HTS.out] at u1
        rw [HTT.out] at u2
        obtain ⟨Z0, hZ0⟩ : ∃ Z, Z = w3.alloc (Obj.cells #[.slice a2 n2 c2, .slice a3 n3 c3] 43) := ⟨_, rfl⟩
        have bz : Below w1.heap.size w1 Z0 := by rw [hZ0]; exact hb3.alloc hb3.size _
        have b3 : Below w3.heap.size w3 Z0 := by rw [hZ0]; exact (Below.refl _ _).alloc (Nat.le_refl _) _
        have m0 : Z0.cell? ⟨w3.heap.size, 0, none⟩ = some (.slice a2 n2 c2) := by rw [hZ0]; exact cell_new _ _ _ rfl rfl
        have m1 : Z0.cell? ⟨w3.heap.size, 1, none⟩ = some (.slice a3 n3 c3) := by rw [hZ0]; exact cell_new _ _ _ rfl rfl
        have X3 := var4_B bz HX1.out
        have R3 := var4_B bz HR1.out
        obtain ⟨Z2, hZ2⟩ : ∃ Z, Z = (Z0.setCell ⟨w.heap.size, 0, none⟩ (.slice a2 n2 c2)).setCell ⟨w.heap.size, 1, none⟩ (.slice a3 n3 c3) := ⟨_, rfl⟩
        have X5 : Var4 Z2 w.heap.size (.slice a2 n2 c2) (.slice a3 n3 c3) (.int .i64 D) (.slice (some ⟨b, o, none⟩) l d) := by rw [hZ2]; exact var4_set01 X3 _ _
        have R5 : Var4 Z2 (w.heap.size + 1) (.slice none 0 0) (.slice none 0 0) (.int .i64 0) (.slice none 0 0) := by rw [hZ2]; exact var4_other (var4_other R3 (by omega) _) (by omega) _
        have B2 : Below w.heap.size w Z2 := by rw [hZ2]; exact ((below_from HB1.out bz).setCell (p := ⟨w.heap.size, 0, none⟩) (Nat.le_refl _) _).setCell (p := ⟨w.heap.size, 1, none⟩) (Nat.le_refl _) _
        have H6 := Lib.hid (var4_set R5 (.slice a2 n2 c2) (.slice a3 n3 c3) (.int .i64 D) (.slice (some ⟨b, o, none⟩) l d))
        have kq : ∀ (b1 o1 : Nat) (u : Value), (b1 ≠ w.heap.size ∧ b1 ≠ w.heap.size + 1) → w3.cell? ⟨b1, o1, none⟩ = some u → ((((Z2.setCell ⟨w.heap.size + 1, 0, none⟩ (.slice a2 n2 c2)).setCell ⟨w.heap.size + 1, 1, none⟩ (.slice a3 n3 c3)).setCell ⟨w.heap.size + 1, 2, none⟩ (.int .i64 D)).setCell ⟨w.heap.size + 1, 3, none⟩ (.slice (some ⟨b, o, none⟩) l d)).cell? ⟨b1, o1, none⟩ = some u := fun b1 o1 u hq hu => by
          have k2 : Z2.cell? ⟨b1, o1, none⟩ = some u := by
            rw [hZ2]
            exact keep_set (Q := fun b => b ≠ w.heap.size) (fun _ h => h) _ _ _ hq.1 (keep_set (Q := fun b => b ≠ w.heap.size) (fun _ h => h) _ _ _ hq.1 (cellB b3 hu))
          exact keep_set (Q := fun b => b ≠ w.heap.size + 1) (fun _ h => h) _ _ _ hq.2 (keep_set (Q := fun b => b ≠ w.heap.size + 1) (fun _ h => h) _ _ _ hq.2 (keep_set (Q := fun b => b ≠ w.heap.size + 1) (fun _ h => h) _ _ _ hq.2 (keep_set (Q := fun b => b ≠ w.heap.size + 1) (fun _ h => h) _ _ _ hq.2 k2)))
        have V1 := Lib.hid (slP_keep kq u1).sl
        have V2 := Lib.hid (slP_keep kq u2).sl
        have HB2 := Lib.hid B2
        have HZ0 := Lib.hid hZ0
        have HZ2 := Lib.hid hZ2
        obtain ⟨⟨y0, y1, y2, y3⟩, y4, y5, y6, y7⟩ := X3
        clear kq B2 hZ0 hZ2 u1 u2 hb3 b3 bz R3 x0 x1 x2 x3 g0 g1 g2 g3 T1 T2
        go_upto_region 14 with fail
        rw [← HZ0.out]
        go_upto_region 15 with fail
        rw [← HZ2.out]
        clear y0 y1 y2 y3 y4 y5 y6 y7 m0 m1
        obtain ⟨⟨y0, y1, y2, y3⟩, -⟩ := X5
        obtain ⟨⟨s0, s1, s2, s3⟩, t0, t1, t2, t3⟩ := R5
        go_wp2
        refine bp_cell_tmp2 ⟨w.heap.size + 1, 0, none⟩ rfl rfl rfl (load_tso' _ _ _ _ _ _ H6.out.1.1 H6.out.1.2.1 H6.out.1.2.2.1 H6.out.1.2.2.2) ?_
        have hbf := below_set4 (g := w.heap.size + 1) HB2.out (by omega) (.slice a2 n2 c2) (.slice a3 n3 c3) (.int .i64 D) (.slice (some ⟨b, o, none⟩) l d)
        rw [HLV.out]
        exact refLP_yes HES.out V1.out V2.out (blB hbf S) hbf
    · have q1 : (ev != 0) = true := by simpa using he
      have HEN := Lib.hid he
      have HZ := Lib.hid (var4_set R (.slice none 0 0) (.slice none 0 0) (.int .i64 0) (.slice none 0 0))
      obtain ⟨⟨s0, s1, s2, s3⟩, t0, t1, t2, t3⟩ := R
      clear he X hkk
      go_wp2
      refine bp_cell_tmp2 ⟨w.heap.size + 1, 0, none⟩ rfl rfl rfl (load_tso' _ _ _ _ _ _ HZ.out.1.1 HZ.out.1.2.1 HZ.out.1.2.2.1 HZ.out.1.2.2.2) ?_
      rw [HES.out]
      exact refLP_no HEN.out (below_set4 (g := w.heap.size + 1) HB1.out (by omega) _ _ _ _)
  · have HES := Lib.hid (show lockTE ws ts D bs j k x = 9 by rw [HE.out, if_neg hne])
    have hm0 : 0 < m := by rw [← HPL.out]; exact List.length_pos_iff.2 hne
    have HZ := Lib.hid (var4_set R (.slice none 0 0) (.slice none 0 0) (.int .i64 0) (.slice none 0 0))
    clear hne X R hkk
    go_wp2
    refine bp_cell_tmp2 ⟨w.heap.size + 1, 0, none⟩ rfl rfl rfl (load_tso' _ _ _ _ _ _ HZ.out.1.1 HZ.out.1.2.1 HZ.out.1.2.2.1 HZ.out.1.2.2.2) ?_
    rw [HES.out]
    exact refLP_no (by decide) (below_set4 (g := w.heap.size + 1) HB.out (by omega) _ _ _ _)
end Go.Proofs.YtiebaeaomgpicaaGreat
