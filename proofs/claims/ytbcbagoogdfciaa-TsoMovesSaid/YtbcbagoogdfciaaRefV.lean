/- Contracts of the document's own answers of layer 3 (package respiteref03): Load, with, Store. -/
import Derived.Test.YtbcbagoogdfciaaRefU
import Derived.Test.YtbcbagoogdfciaaRefC
import Derived.Test.YtbcbagoogdfciaaRefN
import Derived.Test.YtbcbagoogdfciaaMathO
namespace Go.Proofs.Ytbcbagoogdfciaa
open Go.ChangeShapes Go.WideShapes Go.ChangeAt Go.RowKit

set_option maxHeartbeats 4000000 in
theorem refLoadT_any (a a' q : Option Addr) (n c n' c' l d : Nat) (ws ts : List Int) (D : Int) (bs : List (List (Int × Int))) (th x : Int) (w : World) (S1 : Sl w a n ws) (S2 : Sl w a' n' ts) (S : Bl w q l bs) (hh : hasB ws ts D bs th = true) :
    Calls Try.prog 20 #[.agg #[.slice a n c, .slice a' n' c', .int .i64 D, .slice q l d], .int .i64 th, .int .i64 x] w (LoadPost (loadT ws ts D bs th x) (loadTE ws ts D bs th x) w) := by
  have Hl := Lib.hid S.1
  obtain ⟨hm, h0, h1⟩ := hasB_parts hh
  obtain ⟨j, rfl⟩ := Int.eq_ofNat_of_zero_le h0
  have hjl : j < l := by rw [← Hl.out]; omega
  have i1 : (0 : Int) ≤ j := by omega
  have i2 : (j : Int) < l := by omega
  have HE := Lib.hid (show loadTE ws ts D bs j x = usableZ ws ts x by rw [loadTE, if_pos hh])
  have HV := Lib.hid (show loadT ws ts D bs j x = if usableZ ws ts x = 0 then (newest (bs.getD j []) x).getD (loadZ ws ts x) else 0 by rw [loadT, HE.out, bufOf, Int.toNat_natCast])
  have H8 : (bs.getD j []).length ≤ 8 := by have := (mayT_parts hm).2.2.2 j (by omega); have := (mayT_parts hm).2.2.1; omega
  have HS8 := Lib.hid H8
  have HM := Lib.hid (mayT_parts hm).1
  clear hh hm h0 h1 H8
  go_enter Try.func20, Try.ntmps20
  go_wp2_with fail
  refine (refLoad_any a a' n c n' c' ws ts x _ (slA _ S1) (slA _ S2) HM.out).mono ?_
  rintro e w1 ⟨rfl, hb⟩
  obtain ⟨ev, hev⟩ : ∃ z, usableZ ws ts x = z := ⟨_, rfl⟩
  obtain ⟨lv, hlv⟩ : ∃ z, loadZ ws ts x = z := ⟨_, rfl⟩
  have HEV := Lib.hid hev
  have HLV := Lib.hid hlv
  rw [hev, hlv]
  have hb1 : Below w.heap.size w w1 := below_from (by go_grown) hb
  have k3 : w1.cell? ⟨w.heap.size, 3, none⟩ = some (.slice q l d) := cellB hb (by simp)
  have HB1 := Lib.hid hb1
  by_cases he : ev = 0
  · subst he
    obtain ⟨b, o, y, yc, rfl, g0, hcap, hp⟩ := bl_at (blB hb1 S) hjl
    obtain ⟨ps, hps⟩ : ∃ ps, bs.getD j [] = ps := ⟨_, rfl⟩
    have h8 := HS8.out
    rw [hps] at g0 hp hcap h8
    have HPS := Lib.hid hps
    obtain ⟨m, hm⟩ : ∃ m, ps.length = m := ⟨_, rfl⟩
    rw [hm] at g0 hp hcap h8
    clear hb hb1 hlv hev hps hm hcap HS8
    go_wp2_with fail
    refine (refNewest_any y m yc ps x _ hp (by omega)).mono ?_
    rintro e w3 ⟨rfl, hb⟩
    have HB3 := Lib.hid (below_from HB1.out hb)
    cases hnw : newest ps x with
    | some v =>
      have HN := Lib.hid (And.intro (show newestV ps x = v by rw [newestV, hnw]; rfl) (show newestB ps x = true by rw [newestB, hnw]; rfl))
      have HW := Lib.hid hnw
      rw [HN.out.1, HN.out.2]
      clear hnw hb hp
      go_wp2
      go_ret2
      exact loadPost_mk (by rw [HV.out, HEV.out, if_pos rfl, HPS.out, HW.out]; rfl) (by rw [HE.out, HEV.out]) HB3.out
    | none =>
      have HN := Lib.hid (And.intro (show newestV ps x = 0 by rw [newestV, hnw]; rfl) (show newestB ps x = false by rw [newestB, hnw]; rfl))
      have HW := Lib.hid hnw
      rw [HN.out.1, HN.out.2]
      clear hnw hb hp
      go_wp2
      go_ret2
      exact loadPost_mk (by rw [HV.out, HEV.out, if_pos rfl, HPS.out, HW.out, HLV.out]; rfl) (by rw [HE.out, HEV.out]) HB3.out
  · have q1 : (ev != 0) = true := by simpa using he
    have HEN := Lib.hid he
    clear hb hb1 hlv hev he k3 HS8
    go_wp2
    go_ret2
    exact loadPost_mk (by rw [HV.out, HEV.out, if_neg HEN.out]) (by rw [HE.out, HEV.out]) HB1.out

/-- the values of a row of buffers, of all blocks of which Q holds -/
def BValsQ (Q : Nat → Prop) (w : World) (vs : List Value) (bs : List (List (Int × Int))) : Prop := vs.length = bs.length ∧ ∀ i, i < bs.length → ∃ q c, vs[i]? = some (.slice q (bs.getD i []).length c) ∧ CapOk q (bs.getD i []).length c ∧ PlQ Q w q (bs.getD i []).length (bs.getD i [])
theorem bvalsQ_nil (Q : Nat → Prop) (w : World) : BValsQ Q w [] [] := ⟨rfl, fun i hi => by simp at hi⟩
theorem bvalsQB {Q : Nat → Prop} {w w' : World} {vs : List Value} {bs : List (List (Int × Int))} (hb : Below w.heap.size w w') (h : BValsQ Q w vs bs) : BValsQ Q w' vs bs :=
  ⟨h.1, fun i hi => by obtain ⟨q, c, h1, h2, h3⟩ := h.2 i hi; exact ⟨q, c, h1, h2, plQB hb h3⟩⟩
theorem bvalsQ_snoc {Q : Nat → Prop} {w : World} {vs : List Value} {bs : List (List (Int × Int))} {q : Option Addr} {n c : Nat} {b : List (Int × Int)} (h : BValsQ Q w vs bs) (hc : CapOk q n c) (hp : PlQ Q w q n b) : BValsQ Q w (vs ++ [.slice q n c]) (bs ++ [b]) := by
  obtain rfl : b.length = n := hp.1
  refine ⟨by simp [h.1], fun i hi => ?_⟩
  rw [List.length_append, List.length_singleton] at hi
  by_cases e : i = bs.length
  · subst e
    refine ⟨q, c, ?_, ?_, ?_⟩
    · rw [List.getElem?_append_right (by rw [h.1]; exact Nat.le_refl _), h.1]; simp
    · simpa using hc
    · simpa using hp
  · have hi' : i < bs.length := by omega
    obtain ⟨q', c', h1, h2, h3⟩ := h.2 i hi'
    have e2 : (bs ++ [b]).getD i [] = bs.getD i [] := by
      simp only [List.getD_eq_getElem?_getD]
      rw [List.getElem?_append_left hi']
    rw [e2]
    exact ⟨q', c', by rw [List.getElem?_append_left (by rw [h.1]; exact hi')]; exact h1, h2, h3⟩
theorem ownsRow_blQ {Q : Nat → Prop} {e B : Nat} {w : World} {v : Value} {n : Nat} {vs : List Value} {bs : List (List (Int × Int))} (h : w.ownsRow B e 1 v n vs) (hv : BValsQ Q w vs bs) (hQ : ∀ b, B ≤ b → Q b) : ∃ a c, v = .slice a n c ∧ CapOk a n c ∧ BlP Q w a n bs := by
  obtain ⟨hl, h⟩ := h
  have hl' : bs.length = n := by rw [← hv.1, hl, Nat.mul_one]
  rcases h with ⟨rfl, h0⟩ | ⟨g, cap, cur, rfl, hb, hg, hn, hm, hs, ht⟩
  · exact ⟨none, 0, by rw [h0], by subst h0; exact capOk_nil, hl', .inl h0⟩
  · unfold maxLen at hm
    refine ⟨_, _, rfl, ⟨hn, by omega, fun e => by cases e⟩, hl', .inr ⟨g, 0, rfl, hQ _ hb, fun i hi => ?_⟩⟩
    obtain ⟨q, c, h1, h2, h3⟩ := hv.2 i hi
    refine ⟨q, c, ?_, h2, h3⟩
    simp only [World.cell?, hg]
    rw [← ht, List.getElem?_take, if_pos (by omega)] at h1
    simpa using h1
theorem blP_at {Q : Nat → Prop} {w : World} {a : Option Addr} {n : Nat} {bs : List (List (Int × Int))} (h : BlP Q w a n bs) {i : Nat} (hi : i < n) :
    ∃ b o q c, a = some ⟨b, o, none⟩ ∧ w.cell? ⟨b, o + i, none⟩ = some (.slice q (bs.getD i []).length c) ∧ CapOk q (bs.getD i []).length c ∧ PlQ Q w q (bs.getD i []).length (bs.getD i []) := by
  obtain ⟨b, o, e, _, r⟩ := h.2.resolve_left (by omega)
  obtain ⟨q, c, h1, h2, h3⟩ := r i (by rw [h.1]; exact hi)
  exact ⟨b, o, q, c, e, h1, h2, h3⟩
theorem blP_old {Q : Nat → Prop} {w : World} {a : Option Addr} {n : Nat} {bs : List (List (Int × Int))} (hQ : ∀ b, b < w.heap.size → Q b) (h : Bl w a n bs) : BlP Q w a n bs := by
  refine ⟨h.1, ?_⟩
  by_cases h0 : n = 0
  · exact .inl h0
  · obtain ⟨b, o, e, r⟩ := h.2.resolve_left h0
    obtain ⟨q, c, h1, _⟩ := r 0 (by have := h.1; omega)
    refine .inr ⟨b, o, e, hQ _ (cell_lt h1), fun i hi => ?_⟩
    obtain ⟨q', c', k1, k2, k3⟩ := r i hi
    exact ⟨q', c', k1, k2, plQ_old hQ k3⟩
theorem withBs_succ (bs : List (List (Int × Int))) (i : Int) (b : List (Int × Int)) (k : Nat) : withBs bs i b (k + 1) = withBs bs i b k ++ [withB bs i b k] := rfl

set_option maxRecDepth 100000 in
set_option maxHeartbeats 4000000 in
theorem refWithT_any (q : Option Addr) (l d : Nat) (bs : List (List (Int × Int))) (i : Int) (p : Option Addr) (m mc : Nat) (b : List (Int × Int)) (w : World) (Q : Nat → Prop) (S : BlP Q w q l bs) (hl8 : l ≤ 8) (hp : PlQ Q w p m b) (hc : CapOk p m mc) (hQ : ∀ b, w.heap.size ≤ b → Q b) :
    Calls Try.prog 40 #[.slice q l d, .int .i64 i, .slice p m mc] w (fun e w' => ∃ r f, e = .returned (.slice r l f) ∧ BlP Q w' r l (withBs bs i b l) ∧ Below w.heap.size w w') := by
  obtain ⟨i0, hi, hz0, hz1, hz2⟩ := info_parts Try.info48
  have HI := Lib.hid (And.intro hi (And.intro hz0 (And.intro hz1 hz2)))
  have Hl := Lib.hid S.1
  have HC := Lib.hid hc
  have HP := Lib.hid hp
  clear hi hz0 hz1 hz2 hc hp
  go_enter Try.func40, Try.ntmps40
  go_wp2
  go_loopw [7, 13] (fun v s wr => ∃ (k : Nat) (vs : List Value), k ≤ l ∧ s = .int .i64 k ∧ Hid (wr.ownsRow w.heap.size 48 1 v k vs) ∧ Hid (BValsQ Q w vs (withBs bs i b k)) ∧ Below w.heap.size w wr) (fun _ s _ => l - (intOf s).toNat)
  case atStart => exact ⟨0, [], by omega, rfl, World.ownsRow_made w #[] 0 (Nat.le_refl _) (by decide) (by simp), bvalsQ_nil Q w, (Below.refl _ _).alloc (Nat.le_refl _) _⟩
  case round =>
    obtain ⟨k, vs, hk, rfl, ho, hv, hb⟩ := hrel
    by_cases hlt : k < l
    · obtain ⟨b1, o1, y, yc, rfl, g0, hcap, hp1⟩ := blP_at S hlt
      replace g0 := cellB hb g0
      obtain ⟨x, hx⟩ : ∃ x, bs.getD k [] = x := ⟨_, rfl⟩
      rw [hx] at g0 hcap hp1
      have HX := Lib.hid hx
      obtain ⟨u, hu⟩ : ∃ u, x.length = u := ⟨_, rfl⟩
      rw [hu] at g0 hcap hp1
      have HCAP := Lib.hid hcap
      have HP1 := Lib.hid hp1
      have HB := Lib.hid hb
      have hsz := hb.size
      have j1 : (0 : Int) ≤ k := by omega
      have j2 : (k : Int) < l := by omega
      clear hx hu hcap hp1 hb
      by_cases e : (k : Int) = i
      · have q1 : ((k : Int) == i) = true := by simpa using e
        have HWB := Lib.hid (show withB bs i b k = b by rw [withB, if_pos e])
        clear e
        go_wp2_with (at_builtin; refine wpList_append_own_at _ rfl _ _ 23 rfl w.heap.size 48 i0 (.slice none 0 0) 1 24 Try.underlying23 HI.out.1 HI.out.2.1 HI.out.2.2.1 HI.out.2.2.2 rfl (by decide) _ _ _ rfl (ho.out.alloc _) ⟨wr.heap.size, 0, none⟩ 1 1 [.slice p m mc] rfl rfl ?c1 ?c2 ?c3 ?c4 ?c5 ?_)
        case c1 => exact cell_one_new _ _ _
        case c2 => intro x hx; simp at hx; subst hx; rfl
        case c3 => unfold maxLen; omega
        case c4 => omega
        case c5 => simp; omega
        intro v' w1 hown hgrow _ _
        have HOW := Lib.hid hown
        have HBB := Lib.hid (mine_below ((Below.refl _ _).alloc hsz _) (by simp; omega) hgrow ho.out)
        clear hown hgrow
        go_wp2_with fail
        go_roundw
        case rel =>
          refine ⟨k + 1, _, by omega, by go_num, HOW.out, ?_, HB.out.trans HBB.out⟩
          rw [withBs_succ, HWB.out]
          exact bvalsQ_snoc hv.out HC.out HP.out
        case measure => simp [intOf]; omega
      · have q1 : ((k : Int) == i) = false := by simpa using e
        have HWB := Lib.hid (show withB bs i b k = x by rw [withB, if_neg e, HX.out])
        clear e
        go_wp2_with (at_builtin; refine wpList_append_own_at _ rfl _ _ 23 rfl w.heap.size 48 i0 (.slice none 0 0) 1 24 Try.underlying23 HI.out.1 HI.out.2.1 HI.out.2.2.1 HI.out.2.2.2 rfl (by decide) _ _ _ rfl (ho.out.alloc _) ⟨wr.heap.size, 0, none⟩ 1 1 [.slice y u yc] rfl rfl ?d1 ?d2 ?d3 ?d4 ?d5 ?_)
        case d1 => exact cell_one_new _ _ _
        case d2 => intro x hx; simp at hx; subst hx; rfl
        case d3 => unfold maxLen; omega
        case d4 => omega
        case d5 => simp; omega
        intro v' w1 hown hgrow _ _
        have HOW := Lib.hid hown
        have HBB := Lib.hid (mine_below ((Below.refl _ _).alloc hsz _) (by simp; omega) hgrow ho.out)
        clear hown hgrow
        go_wp2_with fail
        go_roundw
        case rel =>
          refine ⟨k + 1, _, by omega, by go_num, HOW.out, ?_, HB.out.trans HBB.out⟩
          rw [withBs_succ, HWB.out]
          exact bvalsQ_snoc hv.out HCAP.out HP1.out
        case measure => simp [intOf]; omega
    · obtain rfl : k = l := by omega
      have HB := Lib.hid hb
      clear hb
      go_wp2
      go_ret
      obtain ⟨r, f, e, -, hbl⟩ := ownsRow_blQ ho.out (bvalsQB HB.out hv.out) hQ
      cases e
      exact ⟨_, _, rfl, hbl, HB.out⟩
end Go.Proofs.Ytbcbagoogdfciaa
