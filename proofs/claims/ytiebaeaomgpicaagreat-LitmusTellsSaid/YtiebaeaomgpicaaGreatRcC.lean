/- Contracts of package respiteref04: note. -/
import Derived.Test.YtiebaeaomgpicaaGreatRcB
import Derived.Maps.AppendAt
namespace Go.Proofs.YtiebaeaomgpicaaGreat
open Go.ChangeShapes Go.WideShapes Go.ChangeAt Go.RowKit
open Gen
def noteAt (l : List (List Int)) (j : Nat) (v : Int) (i : Nat) : List Int := if i = j then l.getD i [] ++ v :: [] else l.getD i []
def noteP (l : List (List Int)) (j : Nat) (v : Int) (k : Nat) : List (List Int) := (List.range k).map (noteAt l j v)
theorem noteP_succ (l : List (List Int)) (j : Nat) (v : Int) (k : Nat) : noteP l j v (k + 1) = noteP l j v k ++ noteAt l j v k :: [] := by
  rw [noteP, List.range_succ, List.map_append]; rfl
theorem flat_undR {α : Type} {r : Rep α} {Q : Nat → Prop} {w : World} : ∀ {ys : List α} {cs : List Value}, Flat r Q w cs ys → Flat r (fun b => Q b ∧ b < w.heap.size) w cs ys
  | [], _, h => h
  | _ :: _, _, ⟨c, d, e, h1, h2⟩ => ⟨c, d, e, r.und h1, flat_undR h2⟩
theorem cell_oneR (w : World) (g : Nat) (hg : g = w.heap.size) (x : Value) (t : TypeId) : ∀ j u, [x][j]? = some u → (w.alloc (.cells #[x] t)).cell? ((⟨g, 0, none⟩ : Addr).add j) = some u := by
  subst hg; exact cell_one_new w x t
theorem rows_more {α : Type} {r : Rep α} {Q : Nat → Prop} {w w' : World} {v v' : Value} {vs cx : List Value} {rows : List α} {y : α} (h : Flat r (fun b => Q b ∧ v.ownBlock ≠ some b) w vs rows ∧ r.R (fun b => Q b ∧ v.ownBlock ≠ some b) w cx y)
    (hg : w.grownBy w' v.ownBlock) (hp : v'.ownBlock = v.ownBlock ∨ v'.ownBlock = some w.heap.size) : Flat r (fun b => Q b ∧ v'.ownBlock ≠ some b) w' (vs ++ cx) (rows ++ y :: []) := by
  obtain ⟨hf, hr⟩ := h
  have f3 := flat_keep (kept_grown hg (fun b (hb : (Q b ∧ v.ownBlock ≠ some b) ∧ b < w.heap.size) e => hb.1.2 e)) (flat_undR (flat_snoc hr hf))
  refine flat_mono (fun b hb => ?_) f3
  obtain ⟨⟨hB, hne⟩, hlt⟩ := hb
  refine ⟨hB, ?_⟩
  rcases hp with e | e
  · rw [e]; exact hne
  · rw [e]; intro h; injection h with h; omega
theorem infoI : (Tryz.prog.info? 3).map (fun i => (i.zero, i.size, i.bytes)) = some (some (.int .i64 0), 1, 8) := by kernel_rfl
theorem one_intsR (l : List Int) : ∀ u ∈ l.map (Value.int .i64), u.oneCell' = true := by
  intro u hu
  obtain ⟨z, _, rfl⟩ := List.mem_map.1 hu
  rfl
/-- rows, and where they lie -/
def RowsQ (Q : Nat → Prop) (n : Nat) (l : List (List Int)) (w : World) (e : Ending) (w' : World) : Prop :=
  ∃ q c, e = .returned (.slice q n c) ∧ Vs (repSlice repInt) Q w' q n l ∧ Below w.heap.size w w'

set_option maxRecDepth 100000 in
set_option maxHeartbeats 8000000 in
theorem refNote_any (Q : Nat → Prop) (q : Option Addr) (n c : Nat) (l : List (List Int)) (j : Nat) (v : Int) (w : World) (V : Vs (repSlice repInt) Q w q n l) (hQ : ∀ b, w.heap.size ≤ b → Q b) (hn : n ≤ 1000) (hlen : ∀ x ∈ l, x.length ≤ 1000) :
    Calls Tryz.prog 52 #[.slice q n c, .int .i64 j, .int .i64 v] w (RowsQ Q n (noteP l j v n) w) := by
  have HV := Lib.hid V
  have HLN := Lib.hid hlen
  obtain ⟨i0, hi, hz0, hz1, hz2⟩ := info_parts infoR
  have HI := Lib.hid (And.intro hi (And.intro hz0 (And.intro hz1 hz2)))
  obtain ⟨j0, ki, kz0, kz1, kz2⟩ := info_parts infoI
  have HJ := Lib.hid (And.intro ki (And.intro kz0 (And.intro kz1 kz2)))
  clear V hlen hi hz0 hz1 hz2 ki kz0 kz1 kz2
  go_enter Tryz.func52, Tryz.ntmps52
  go_wp2_with fail
  go_loopw [7, 14] (fun u i wr => ∃ (k : Nat) (va : Value) (vs : List Value), k ≤ n ∧ i = .int .i64 k ∧ u = va ∧ Hid (wr.ownsRow w.heap.size 23 1 va k vs) ∧ Hid (Flat (repSlice repInt) (fun b => Q b ∧ va.ownBlock ≠ some b) wr vs (noteP l j v k)) ∧ Below w.heap.size w wr) (fun _ i _ => n - (intOf i).toNat)
  case atStart => exact ⟨0, _, [], Nat.zero_le _, rfl, rfl, (World.ownsRow_lit w #[] 0 (Nat.le_refl _) (by decide) rfl : World.ownsRow _ _ _ _ _ _ _), (rfl : Flat (repSlice repInt) _ _ [] []), (Below.refl _ _).alloc (Nat.le_refl _) _⟩
  case round =>
    obtain ⟨k, u, vs, hk, rfl, rfl, ho, hf, hb⟩ := hrel
    obtain ⟨va, vc, rfl⟩ := own_shapeR ho.out
    by_cases hlt : k < n
    · obtain ⟨b, ob, x, px, pc, rfl, hx, g0, hR, V2⟩ := rows_atR HV.out hlt
      obtain ⟨xl, hxl⟩ : ∃ xl, x.length = xl := ⟨_, rfl⟩
      have hx1 : xl ≤ 1000 := by rw [← hxl]; exact HLN.out x (List.mem_of_getElem? hx)
      have hgd : l.getD k [] = x := by rw [List.getD_eq_getElem?_getD, hx]; rfl
      rw [hxl] at g0 hR V2
      replace g0 := cellB hb g0
      have HXL := Lib.hid hxl
      have HGD := Lib.hid hgd
      have HV2 := Lib.hid V2
      have HR := Lib.hid ((repSlice repInt).und hR)
      have i1 : (0 : Int) ≤ k := by omega
      have i2 : (k : Int) < n := by omega
      have HB := Lib.hid hb
      have hsz := hb.size
      by_cases e1 : k = j
      · have q1 : ((k : Int) == (j : Int)) = true := by rw [e1]; simp
        have HNS := Lib.hid (show noteP l j v (k + 1) = noteP l j v k ++ (x ++ v :: []) :: [] by rw [noteP_succ, noteAt, if_pos e1, hgd])
        clear hx hxl hgd V2 hR hb e1
        by_cases hpx : px = none
        · subst hpx
          obtain rfl : xl = 0 := by
            rcases HV2.out.2 with h | ⟨b, o, h, _⟩
            · exact h
            · cases h
          have HX0 := Lib.hid (List.eq_nil_of_length_eq_zero HXL.out)
          have hown0 : (wr.alloc (Obj.cells #[] 3)).ownsRow wr.heap.size 3 1 (.slice (some ⟨wr.heap.size, 0, none⟩) 0 0) 0 [] := World.ownsRow_lit wr #[] 0 (Nat.le_refl _) (by decide) rfl
          go_wp2_with (at_builtin; refine wpList_append_own _ rfl (.tmp 26) (.tmp 28) 23 rfl wr.heap.size 3 j0 (.int .i64 0) 1 8 Tryz.underlying23 HJ.out.1 HJ.out.2.1 HJ.out.2.2.1 HJ.out.2.2.2 rfl (by decide) (.slice (some ⟨wr.heap.size, 0, none⟩) 0 0) 0 [] rfl (hown0.alloc _) ⟨wr.heap.size + 1, 0, none⟩ 1 1 [.int .i64 v] rfl rfl (cell_oneR _ _ (by simp) _ _) (by simp [Value.oneCell']) (by unfold maxLen; omega) (by omega) (by have := hsz; simp; omega) ?_)
          intro v2 w2 hown hgrow _
          obtain ⟨va2, vc2, rfl⟩ := own_shapeR hown
          have hb2 : Below wr.heap.size wr w2 := (((Below.refl _ _).alloc (Nat.le_refl _) _).alloc (by simp) _).grown hgrow (by simp; omega) (fun g hr => (hown0.lt g hr).1)
          have hown2 : w2.ownsRow wr.heap.size 3 1 (.slice va2 (0 + 1) vc2) (0 + 1) ((x ++ v :: []).map (.int .i64)) := by rw [HX0.out]; exact hown
          clear hown hgrow hown0
          obtain ⟨a2, c2, e2, n1, n2, n3, VI⟩ := vs_own (r := repInt) (Q := fun b => wr.heap.size ≤ b) hown2 (flat_map1 (.int .i64) (x ++ v :: [])) (fun b h _ => h)
          cases e2
          have HEL := Lib.hid (show (repSlice repInt).R (fun b => Q b ∧ (Value.slice va k vc).ownBlock ≠ some b) w2 [.slice va2 (0 + 1) vc2] (x ++ v :: []) from ⟨va2, vc2, by rw [VI.1], by rw [VI.1]; exact n1, n2, n3, by rw [VI.1]; exact vs_mono (fun b hb => ⟨hQ b (by omega), fun e => by have := (ho.out.lt _ e).2; omega⟩) VI⟩)
          have HW2 := Lib.hid hb2
          have HO5 := Lib.hid (own_below ho.out hb2)
          have HB5 := Lib.hid (below_from HB.out hb2)
          have hs5 := HB5.out.size
          have HFR := Lib.hid (And.intro (flat_keep (kept_A _ (Obj.cells #[.slice va2 (0 + 1) vc2] 23)) (flat_keep (kept_B hb2) hf.out)) ((repSlice repInt).keep (kept_A _ (Obj.cells #[.slice va2 (0 + 1) vc2] 23)) HEL.out))
          clear hown2 VI n1 n2 n3 hb2
          go_wp2_with (at_builtin; refine wpList_append_own_at _ rfl (.tmp 30) (.tmp 32) 27 rfl w.heap.size 23 i0 (.slice none 0 0) 1 24 Tryz.underlying27 HI.out.1 HI.out.2.1 HI.out.2.2.1 HI.out.2.2.2 rfl (by decide) (.slice va k vc) k vs rfl (HO5.out.alloc _) ⟨w2.heap.size, 0, none⟩ 1 1 [.slice va2 (0 + 1) vc2] rfl rfl (cell_one_new _ _ _) (by simp [Value.oneCell']) (by unfold maxLen; omega) (by omega) (by simp; omega) ?_)
          intro v' w9 hown hgrow _ hplace
          have HB9 := Lib.hid (show Below w.heap.size w w9 from (HB5.out.alloc HB5.out.size _).grown hgrow (by have := HB5.out.size; simp; omega) (fun g hr => (HO5.out.lt g hr).1))
          have HO9 := Lib.hid hown
          have HF9 := Lib.hid (rows_more (v' := v') HFR.out hgrow (hplace.imp id (fun e => e.trans (by simp))))
          clear hown hgrow hplace
          go_wp2_with fail
          go_roundw
          case rel => exact ⟨k + 1, v', _, by omega, by go_num, rfl, HO9.out, (by show Flat _ _ _ _ _; rw [HNS.out]; exact HF9.out), HB9.out⟩
          case measure => simp [intOf]; omega
        · obtain ⟨ax, rfl⟩ := Option.ne_none_iff_exists'.1 hpx
          have hown0 : (wr.alloc (Obj.cells #[] 3)).ownsRow wr.heap.size 3 1 (.slice (some ⟨wr.heap.size, 0, none⟩) 0 0) 0 [] := World.ownsRow_lit wr #[] 0 (Nat.le_refl _) (by decide) rfl
          have HCX := Lib.hid (vs_cells1 (vs_keep (kept_A _ (Obj.cells #[] 3)) (vs_B HB.out HV2.out)) _ rfl)
          have hml : (x.map (Value.int .i64)).length = xl * 1 := by rw [List.length_map, HXL.out, Nat.mul_one]
          go_wp2_with (at_builtin; refine wpList_append_own _ rfl (.tmp 23) (.tmp 24) 23 rfl wr.heap.size 3 j0 (.int .i64 0) 1 8 Tryz.underlying23 HJ.out.1 HJ.out.2.1 HJ.out.2.2.1 HJ.out.2.2.2 rfl (by decide) (.slice (some ⟨wr.heap.size, 0, none⟩) 0 0) 0 [] rfl hown0 ax xl pc (x.map (.int .i64)) rfl hml HCX.out (one_intsR x) (by unfold maxLen; omega) (by omega) (by simp) ?_)
          intro v1 w1 hown hgrow _
          obtain ⟨va1, vc1, rfl⟩ := own_shapeR hown
          have hb1 : Below wr.heap.size wr w1 := ((Below.refl _ _).alloc (Nat.le_refl _) _).grown hgrow (by simp) (fun g hr => (hown0.lt g hr).1)
          have HO1 := Lib.hid hown
          have HB1 := Lib.hid hb1
          have hs1 := hb1.size
          clear hown hgrow hown0 hb1 hml
          go_wp2_with (at_builtin; refine wpList_append_own _ rfl (.tmp 26) (.tmp 28) 23 rfl wr.heap.size 3 j0 (.int .i64 0) 1 8 Tryz.underlying23 HJ.out.1 HJ.out.2.1 HJ.out.2.2.1 HJ.out.2.2.2 rfl (by decide) (.slice va1 xl vc1) xl _ rfl (HO1.out.alloc _) ⟨w1.heap.size, 0, none⟩ 1 1 [.int .i64 v] rfl rfl (cell_oneR _ _ (by simp) _ _) (by simp [Value.oneCell']) (by unfold maxLen; omega) (by omega) (by have := hs1; simp; omega) ?_)
          intro v2 w2 hown hgrow _
          obtain ⟨va2, vc2, rfl⟩ := own_shapeR hown
          have hb2 : Below wr.heap.size wr w2 := (HB1.out.alloc hs1 _).grown hgrow (by simp; omega) (fun g hr => (HO1.out.lt g hr).1)
          have hown2 : w2.ownsRow wr.heap.size 3 1 (.slice va2 (xl + 1) vc2) (xl + 1) ((x ++ v :: []).map (.int .i64)) := by rw [List.map_append]; exact hown
          clear hown hgrow
          obtain ⟨a2, c2, e2, n1, n2, n3, VI⟩ := vs_own (r := repInt) (Q := fun b => wr.heap.size ≤ b) hown2 (flat_map1 (.int .i64) (x ++ v :: [])) (fun b h _ => h)
          cases e2
          have HEL := Lib.hid (show (repSlice repInt).R (fun b => Q b ∧ (Value.slice va k vc).ownBlock ≠ some b) w2 [.slice va2 (xl + 1) vc2] (x ++ v :: []) from ⟨va2, vc2, by rw [VI.1], by rw [VI.1]; exact n1, n2, n3, by rw [VI.1]; exact vs_mono (fun b hb => ⟨hQ b (by omega), fun e => by have := (ho.out.lt _ e).2; omega⟩) VI⟩)
          have HW2 := Lib.hid hb2
          have HO5 := Lib.hid (own_below ho.out hb2)
          have HB5 := Lib.hid (below_from HB.out hb2)
          have hs5 := HB5.out.size
          have HFR := Lib.hid (And.intro (flat_keep (kept_A _ (Obj.cells #[.slice va2 (xl + 1) vc2] 23)) (flat_keep (kept_B hb2) hf.out)) ((repSlice repInt).keep (kept_A _ (Obj.cells #[.slice va2 (xl + 1) vc2] 23)) HEL.out))
          clear hown2 VI n1 n2 n3 hb2
          go_wp2_with (at_builtin; refine wpList_append_own_at _ rfl (.tmp 30) (.tmp 32) 27 rfl w.heap.size 23 i0 (.slice none 0 0) 1 24 Tryz.underlying27 HI.out.1 HI.out.2.1 HI.out.2.2.1 HI.out.2.2.2 rfl (by decide) (.slice va k vc) k vs rfl (HO5.out.alloc _) ⟨w2.heap.size, 0, none⟩ 1 1 [.slice va2 (xl + 1) vc2] rfl rfl (cell_one_new _ _ _) (by simp [Value.oneCell']) (by unfold maxLen; omega) (by omega) (by simp; omega) ?_)
          intro v' w9 hown hgrow _ hplace
          have HB9 := Lib.hid (show Below w.heap.size w w9 from (HB5.out.alloc HB5.out.size _).grown hgrow (by have := HB5.out.size; simp; omega) (fun g hr => (HO5.out.lt g hr).1))
          have HO9 := Lib.hid hown
          have HF9 := Lib.hid (rows_more (v' := v') HFR.out hgrow (hplace.imp id (fun e => e.trans (by simp))))
          clear hown hgrow hplace
          go_wp2_with fail
          go_roundw
          case rel => exact ⟨k + 1, v', _, by omega, by go_num, rfl, HO9.out, (by show Flat _ _ _ _ _; rw [HNS.out]; exact HF9.out), HB9.out⟩
          case measure => simp [intOf]; omega
      · have q1 : ((k : Int) == (j : Int)) = false := by simp; omega
        have HNS := Lib.hid (show noteP l j v (k + 1) = noteP l j v k ++ x :: [] by rw [noteP_succ, noteAt, if_neg e1, hgd])
        have HFR := Lib.hid (And.intro (flat_keep (kept_A _ (Obj.cells #[.slice px xl pc] 23)) hf.out) ((repSlice repInt).keep (kept_A _ (Obj.cells #[.slice px xl pc] 23)) ((repSlice repInt).mono (Q' := fun b => Q b ∧ (Value.slice va k vc).ownBlock ≠ some b) (fun b hb => ⟨hb.1, fun e => by have := (ho.out.lt _ e).1; omega⟩) ((repSlice repInt).keep (kept_B HB.out) HR.out))))
        clear hx hxl hgd V2 hR hb e1
        go_wp2_with (at_builtin; refine wpList_append_own_at _ rfl (.tmp 30) (.tmp 32) 27 rfl w.heap.size 23 i0 (.slice none 0 0) 1 24 Tryz.underlying27 HI.out.1 HI.out.2.1 HI.out.2.2.1 HI.out.2.2.2 rfl (by decide) (.slice va k vc) k vs rfl (ho.out.alloc _) ⟨wr.heap.size, 0, none⟩ 1 1 [.slice px xl pc] rfl rfl (cell_one_new _ _ _) (by simp [Value.oneCell']) (by unfold maxLen; omega) (by omega) (by simp; omega) ?_)
        intro v' w9 hown hgrow _ hplace
        have HB9 := Lib.hid (show Below w.heap.size w w9 from (HB.out.alloc HB.out.size _).grown hgrow (by have := HB.out.size; simp; omega) (fun g hr => (ho.out.lt g hr).1))
        have HO9 := Lib.hid hown
        have HF9 := Lib.hid (rows_more (v' := v') HFR.out hgrow (hplace.imp id (fun e => e.trans (by simp))))
        clear hown hgrow hplace
        go_wp2_with fail
        go_roundw
        case rel => exact ⟨k + 1, v', _, by omega, by go_num, rfl, HO9.out, (by show Flat _ _ _ _ _; rw [HNS.out]; exact HF9.out), HB9.out⟩
        case measure => simp [intOf]; omega
    · obtain rfl : k = n := by omega
      have HB := Lib.hid hb
      clear hb
      go_wp2_with fail
      go_ret
      obtain ⟨a, c', e', -, -, -, VR⟩ := vs_own (r := repSlice repInt) (Q := Q) ho.out (flat_mono (fun _ h => h.1) hf.out) (fun b h _ => hQ b h)
      cases e'
      exact ⟨_, _, rfl, VR, HB.out⟩
end Go.Proofs.YtiebaeaomgpicaaGreat
