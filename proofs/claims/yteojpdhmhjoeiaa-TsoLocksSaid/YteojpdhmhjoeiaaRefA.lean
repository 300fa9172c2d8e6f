/- Contracts of the document's own answers of layer 1 (package respiteref01). -/
import Derived.Test.YteojpdhmhjoeiaaMemC
import Derived.Test.YteojpdhmhjoeiaaMathC
import Derived.WalkSmall
namespace Go.Proofs.Yteojpdhmhjoeiaa
open Go.ChangeShapes Go.WideShapes Go.ChangeAt Go.RowKit

/-- what a slice of the call's own holds -/
theorem ownsRow_slF {B : Nat} {w : World} {v : Value} {n : Nat} {zs : List Int} (h : w.ownsRow B 3 1 v n (zs.map (Value.int .i64))) : ∃ a c, v = .slice a n c ∧ SlF B w a n zs := by
  obtain ⟨hl, h⟩ := h
  have hl' : zs.length = n := by simpa using hl
  rcases h with ⟨rfl, h0⟩ | ⟨g, cap, cur, rfl, hb, hg, hn, hm, hs, ht⟩
  · exact ⟨none, 0, by rw [h0], hl', .inl h0⟩
  · refine ⟨_, _, rfl, hl', .inr ⟨g, 0, rfl, hb, fun i hi => ?_⟩⟩
    simp only [World.cell?, hg]
    have e : (zs.map (Value.int .i64))[i]? = some (.int .i64 (zs.getD i 0)) := by simp [hi]
    rw [← ht, List.getElem?_take, if_pos (by omega)] at e
    simpa using e

theorem cell_one (w : World) (x : Value) (t : TypeId) : ∀ j u, [x][j]? = some u → (w.alloc (.cells #[x] t)).cell? ((⟨w.heap.size, 0, none⟩ : Addr).add j) = some u := by
  intro j u h
  obtain rfl : j = 0 := by
    have := (List.getElem?_eq_some_iff.1 h).1
    simp at this; omega
  simp at h
  subst h
  simp [Addr.add]
def WithC (zs : List Int) (i x : Int) (k : Nat) : List Value := (withN zs i x k).map (Value.int .i64)
theorem WithC_succ (zs : List Int) (i x : Int) (k : Nat) {y : Int} (h : withE zs i x k = y) : WithC zs i x (k + 1) = WithC zs i x k ++ [.int .i64 y] := by
  simp [WithC, withN, h]
def WithPost (zs : List Int) (w : World) (e : Ending) (w' : World) : Prop := ∃ a c, e = .returned (.slice a zs.length c) ∧ SlF w.heap.size w' a zs.length zs ∧ Below w.heap.size w w'
theorem withPost_mk {zs : List Int} {i x : Int} {w w' : World} {v : Value} {n : Nat} (hn : zs.length = n) (h : w'.ownsRow w.heap.size 3 1 v n (WithC zs i x n)) (hb : Below w.heap.size w w') : WithPost (withZ zs i x) w (.returned v) w' := by
  subst hn
  obtain ⟨a, c, rfl, hs⟩ := ownsRow_slF h
  refine ⟨a, c, ?_, ?_, hb⟩
  · rw [withZ, withN_length]
  · rw [show (withZ zs i x).length = zs.length by rw [withZ, withN_length]]; exact hs

set_option maxHeartbeats 2000000 in
theorem With_any (a : Option Addr) (n c : Nat) (zs : List Int) (i x : Int) (w : World) (S : Sl w a n zs) (hn : n ≤ 1000) :
    Calls Try.prog 59 #[.slice a n c, .int .i64 i, .int .i64 x] w (WithPost (withZ zs i x) w) := by
  obtain ⟨i0, hi, hz0, hz1, hz2⟩ := info_parts Try.info3
  have Hn := Lib.hid S.1
  have HI := Lib.hid (And.intro hi (And.intro hz0 (And.intro hz1 hz2)))
  clear hi hz0 hz1 hz2
  go_enter Try.func59, Try.ntmps59
  go_wp2
  go_loopw [7, 13] (fun v s wr => ∃ k : Nat, k ≤ n ∧ s = .int .i64 k ∧ wr.ownsRow w.heap.size 3 1 v k (WithC zs i x k) ∧ Below w.heap.size w wr) (fun _ s _ => n - (intOf s).toNat)
  case atStart => exact ⟨0, by omega, rfl, World.ownsRow_made w #[] 0 (Nat.le_refl _) (by decide) (by simp), (Below.refl _ _).alloc (Nat.le_refl _) _⟩
  case round =>
    obtain ⟨k, hk, rfl, hown, hb⟩ := hrel
    by_cases hlt : k < n
    · obtain ⟨b, o, rfl, R⟩ := S.2.resolve_left (by omega)
      have g := cellB hb (R k (by rw [Hn.out]; exact hlt))
      have hsz := hb.size
      have HB := Lib.hid hb
      have HO := Lib.hid hown
      by_cases e : (k : Int) = i
      · have HS := Lib.hid (WithC_succ zs i x k (by rw [withE, if_pos e]))
        have q : ((k : Int) == i) = true := by simpa using e
        clear e hb hown
        go_wp2_with (at_builtin; refine wpList_append_own _ rfl _ _ 22 rfl w.heap.size 3 i0 (.int .i64 0) 1 8 Try.underlying22 HI.out.1 HI.out.2.1 HI.out.2.2.1 HI.out.2.2.2 rfl (by decide) _ _ _ rfl (HO.out.alloc _) ⟨wr.heap.size, 0, none⟩ 1 1 [.int .i64 x] rfl rfl ?c1 ?c2 ?c3 ?c4 ?c5 ?_)
        case c1 => exact cell_one _ _ _
        case c2 => intro v hv; simp at hv; subst hv; rfl
        case c3 => unfold maxLen; omega
        case c4 => omega
        case c5 => simp; omega
        intro v' w1 hown' hgrow _
        have hb' := (HB.out.alloc hsz (.cells #[.int .i64 x] 3)).grown hgrow (by simp; omega) (fun r hr => ((HO.out.alloc (.cells #[.int .i64 x] 3)).lt r hr).1)
        rw [← HS.out] at hown'
        have HO' := Lib.hid hown'
        have HB' := Lib.hid hb'
        clear hown' hb' hgrow
        go_wp2
        go_roundw
        case rel => exact ⟨k + 1, by omega, by go_num, HO'.out, HB'.out⟩
        case measure => simp [intOf]; omega
      · have HS := Lib.hid (WithC_succ zs i x k (y := zs.getD k 0) (by rw [withE, if_neg e]))
        generalize zs.getD k 0 = y at g HS
        have q : ((k : Int) == i) = false := by simpa using e
        clear e hb hown
        go_wp2_with (at_builtin; refine wpList_append_own _ rfl _ _ 22 rfl w.heap.size 3 i0 (.int .i64 0) 1 8 Try.underlying22 HI.out.1 HI.out.2.1 HI.out.2.2.1 HI.out.2.2.2 rfl (by decide) _ _ _ rfl (HO.out.alloc _) ⟨wr.heap.size, 0, none⟩ 1 1 [.int .i64 y] rfl rfl ?c1 ?c2 ?c3 ?c4 ?c5 ?_)
        case c1 => exact cell_one _ _ _
        case c2 => intro v hv; simp at hv; subst hv; rfl
        case c3 => unfold maxLen; omega
        case c4 => omega
        case c5 => simp; omega
        intro v' w1 hown' hgrow _
        have hb' := (HB.out.alloc hsz (.cells #[.int .i64 y] 3)).grown hgrow (by simp; omega) (fun r hr => ((HO.out.alloc (.cells #[.int .i64 y] 3)).lt r hr).1)
        rw [← HS.out] at hown'
        have HO' := Lib.hid hown'
        have HB' := Lib.hid hb'
        clear hown' hb' hgrow
        go_wp2
        go_roundw
        case rel => exact ⟨k + 1, by omega, by go_num, HO'.out, HB'.out⟩
        case measure => simp [intOf]; omega
    · obtain rfl : k = n := by omega
      have HB := Lib.hid hb
      have HO := Lib.hid hown
      clear hb hown
      go_wp2
      go_ret
      exact withPost_mk Hn.out HO.out HB.out
end Go.Proofs.Yteojpdhmhjoeiaa
