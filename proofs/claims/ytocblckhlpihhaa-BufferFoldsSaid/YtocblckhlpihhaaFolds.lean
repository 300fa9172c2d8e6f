/- The walk of BufferFolds. -/
import Derived.Test.YtocblckhlpihhaaFoldA
import Derived.Test.YtocblckhlpihhaaRefF
import Derived.Test.YtocblckhlpihhaaRefN
namespace Go.Proofs.Ytocblckhlpihhaa
open Go.ChangeShapes Go.WideShapes Go.ChangeAt Go.RowKit

theorem fold_len {ws ts : List Int} {ps : List (Int × Int)} (hm : mayB ws ts = true) : (foldMW ws ts ps).length ≤ 160 ∧ (foldMT ws ts ps).length ≤ 160 := by
  have hz := mayB_size hm
  rw [foldMW, foldMT]
  by_cases h : foldE ws ts ps = 0
  · rw [if_pos h, if_pos h]
    have := (fold_seen 0 (fold_zero h).2).2.2.2.2
    omega
  · rw [if_neg h, if_neg h]; simp

set_option maxRecDepth 100000 in
set_option maxHeartbeats 8000000 in
theorem Folds_walk (a a' : Option Addr) (n c n' c' : Nat) (ws ts : List Int) (q : Option Addr) (l d : Nat) (ps : List (Int × Int)) (w : World) (S1 : Sl w a (min n 170) ws) (S2 : Sl w a' (min n' 170) ts) (h1 : n ≤ c) (h2 : n' ≤ c') (h3 : c ≤ 9223372036854775807) (h4 : c' ≤ 9223372036854775807)
    (S : Pl w q (min l 20) ps) (hf : Wfs ps) (hcap : CapOk q (min l 20) d) (hld : l ≤ d) :
    Calls Try.prog 4 #[.slice a n c, .slice a' n' c', .slice q l d] w (BoolPost true w) := by
  obtain ⟨m, hm⟩ : ∃ m, m = min l 20 := ⟨_, rfl⟩
  have HM := Lib.hid hm
  rw [← hm] at S hcap
  have hd : d ≤ 9223372036854775807 := hcap.2.1
  have hm20 : m ≤ 20 := by omega
  have HF := Lib.hid hf
  clear hcap hm hf
  go_enter Try.func4, Try.ntmps4
  go_upto_region 1 with fail
  go_cut [7, 2] (fun s7 s2 wx => LawCut w a a' q (min n 170) c (min n' 170) c' m d s7 s2 wx)
  case first =>
    have z0 : (w.alloc (Obj.cells #[.slice none 0 0, .slice none 0 0] 40)).drew.cell? ⟨w.heap.size, 0, none⟩ = some (.slice none 0 0) := cell_new (w := w) _ _ _ rfl rfl
    have z1 : (w.alloc (Obj.cells #[.slice none 0 0, .slice none 0 0] 40)).drew.cell? ⟨w.heap.size, 1, none⟩ = some (.slice none 0 0) := cell_new (w := w) _ _ _ rfl rfl
    have z2 : (w.alloc (Obj.cells #[.slice none 0 0, .slice none 0 0] 40)).drew.frozen? ⟨w.heap.size, 0, none⟩ = false := frozen_new (w := w) _ _ rfl
    have z3 : (w.alloc (Obj.cells #[.slice none 0 0, .slice none 0 0] 40)).drew.frozen? ⟨w.heap.size, 1, none⟩ = false := frozen_new (w := w) _ _ rfl
    by_cases h20 : l ≤ 20
    · have h20' : ¬ ((20 : Int) < (l : Int)) := by omega
      have hl1 : (l : Int) ≤ d := by omega
      go_region_with (go_at_call 17; refine (mem2_any a a' n c n' c' _ h1 h2 h3 h4).mono ?_; rintro e w1 ⟨rfl, hb1⟩; (try (have Y0 := cellB hb1 z0; have Y1 := cellB hb1 z1; have Y2 := frozenB hb1 z0 z2; have Y3 := frozenB hb1 z1 z3)); have HB1 := Lib.hid hb1; clear hb1)
      all_goals
        go_wp2_with fail
        go_meet
        have HH := HM.out
        first
          | exact lawCut_new (by congr 1; omega) (below_from (Below.refl _ _).drew HB1.out)
          | exact lawCut_set (g := w.heap.size) (by congr 1; omega) (Nat.le_refl _) (below_from ((Below.refl _ _).alloc (Nat.le_refl _) _).drew HB1.out) Y0 Y1 Y2 Y3
    · have h20' : (20 : Int) < (l : Int) := by omega
      have hl1 : (20 : Int) ≤ d := by omega
      have hl2 : 20 ≤ d := by omega
      go_region_with (go_at_call 17; refine (mem2_any a a' n c n' c' _ h1 h2 h3 h4).mono ?_; rintro e w1 ⟨rfl, hb1⟩; (try (have Y0 := cellB hb1 z0; have Y1 := cellB hb1 z1; have Y2 := frozenB hb1 z0 z2; have Y3 := frozenB hb1 z1 z3)); have HB1 := Lib.hid hb1; clear hb1)
      all_goals
        go_wp2_with fail
        go_meet
        have HH := HM.out
        first
          | exact lawCut_new (by congr 1; omega) (below_from (Below.refl _ _).drew HB1.out)
          | exact lawCut_set (g := w.heap.size) (by congr 1; omega) (Nat.le_refl _) (below_from ((Below.refl _ _).alloc (Nat.le_refl _) _).drew HB1.out) Y0 Y1 Y2 Y3
  case rest =>
    obtain ⟨g, rfl, rfl, hg, c0, k1, e0, e1, B⟩ := hcut
    generalize min n 170 = N at S1 c0
    generalize min n' 170 = N' at S2 k1
    replace S1 := slB B S1
    replace S2 := slB B S2
    replace S := plB B S
    clear h1 h2 h3 h4 hld e0 e1 HM
    go_wp2_with fail
    refine (Fold_any a a' N c N' c' q m d ws ts ps _ S1 S2 S HF.out (by omega)).mono ?_
    rintro e w1 ⟨p, x, y, p', x', y', rfl, u1, u2, hb1⟩
    obtain ⟨ev, hev⟩ : ∃ z, foldE ws ts ps = z := ⟨_, rfl⟩
    obtain ⟨ek, hek⟩ : ∃ z, foldN ws ts ps = z := ⟨_, rfl⟩
    rw [hev, hek]
    have HE := Lib.hid hev
    have HK := Lib.hid hek
    replace B := below_from B hb1
    have B1 := B.alloc B.size (Obj.cells #[.slice p x y, .slice p' x' y'] 40)
    replace S1 := slA (Obj.cells #[.slice p x y, .slice p' x' y'] 40) (slB hb1 S1)
    replace S2 := slA (Obj.cells #[.slice p x y, .slice p' x' y'] 40) (slB hb1 S2)
    replace S := plA (Obj.cells #[.slice p x y, .slice p' x' y'] 40) (plB hb1 S)
    replace c0 := cellA (Obj.cells #[.slice p x y, .slice p' x' y'] 40) (cellB hb1 c0)
    replace k1 := cellA (Obj.cells #[.slice p x y, .slice p' x' y'] 40) (cellB hb1 k1)
    have U1 := slA (Obj.cells #[.slice p x y, .slice p' x' y'] 40) u1.sl
    have U2 := slA (Obj.cells #[.slice p x y, .slice p' x' y'] 40) u2.sl
    have n0 : (w1.alloc (Obj.cells #[.slice p x y, .slice p' x' y'] 40)).cell? ⟨w1.heap.size, 0, none⟩ = some (.slice p x y) := by simp
    have n1 : (w1.alloc (Obj.cells #[.slice p x y, .slice p' x' y'] 40)).cell? ⟨w1.heap.size, 1, none⟩ = some (.slice p' x' y') := by simp
    clear hb1 hev hek u1 u2 B
    go_wp2_with fail
    refine (refRight_any a a' N c N' c' ws ts _ S1 S2).mono ?_
    rintro e w2 ⟨rfl, hb2⟩
    replace B1 := below_from B1 hb2
    replace S1 := slB hb2 S1
    replace S2 := slB hb2 S2
    replace S := plB hb2 S
    replace U1 := slB hb2 U1
    replace U2 := slB hb2 U2
    replace c0 := cellB hb2 c0
    replace k1 := cellB hb2 k1
    replace n0 := cellB hb2 n0
    replace n1 := cellB hb2 n1
    clear hb2
    cases hmay : mayB ws ts with
    | false =>
      have hfn := fold_not (ps := ps) hmay
      rw [hfn.2.2.1] at U1
      rw [hfn.2.2.2] at U2
      obtain rfl : 0 = x := U1.1
      obtain rfl : 0 = x' := U2.1
      obtain rfl : ev = 1 := by rw [← HE.out, hfn.1]
      obtain rfl : ek = 0 := by rw [← HK.out, hfn.2.1]
      clear hfn hmay S1 S2 S c0 k1
      go_wp2_with fail
      refine (alive2_any _).mono ?_
      rintro e w3 ⟨rfl, hb3⟩
      replace B1 := below_from B1 hb3
      replace U1 := slB hb3 U1
      replace U2 := slB hb3 U2
      replace n0 := cellB hb3 n0
      replace n1 := cellB hb3 n1
      clear hb3
      go_wp2_with fail
      refine (Same_any p p' 0 y 0 y' none none 0 0 0 0 [] [] [] [] _ U1 U2 (sl_nil _) (sl_nil _) (by omega) (by omega)).mono ?_
      rintro e w4 ⟨rfl, hb4⟩
      rw [sameB_refl]
      replace B1 := below_from B1 hb4
      clear hb4
      go_wp2
      go_ret
      exact boolPost_mk rfl B1
    | true =>
      have hlen := fold_len (ps := ps) hmay
      have hx : x ≤ 160 := by rw [← U1.1]; exact hlen.1
      have hx' : x' ≤ 160 := by rw [← U2.1]; exact hlen.2
      have HMAY := Lib.hid hmay
      clear hmay hlen
      go_wp2_with fail
      refine (refFold_any a a' N c N' c' q m d ws ts ps _ S1 S2 HMAY.out S (by omega)).mono ?_
      rintro e w3 ⟨r, s, t, r', s', t', rfl, v1, v2, hb3⟩
      rw [HE.out, HK.out]
      replace B1 := below_from B1 hb3
      replace B1 := B1.alloc B1.size (Obj.cells #[.slice r s t, .slice r' s' t'] 40)
      replace U1 := slA (Obj.cells #[.slice r s t, .slice r' s' t'] 40) (slB hb3 U1)
      replace U2 := slA (Obj.cells #[.slice r s t, .slice r' s' t'] 40) (slB hb3 U2)
      replace v1 := slA (Obj.cells #[.slice r s t, .slice r' s' t'] 40) v1
      replace v2 := slA (Obj.cells #[.slice r s t, .slice r' s' t'] 40) v2
      replace n0 := cellA (Obj.cells #[.slice r s t, .slice r' s' t'] 40) (cellB hb3 n0)
      replace n1 := cellA (Obj.cells #[.slice r s t, .slice r' s' t'] 40) (cellB hb3 n1)
      have o0 : (w3.alloc (Obj.cells #[.slice r s t, .slice r' s' t'] 40)).cell? ⟨w3.heap.size, 0, none⟩ = some (.slice r s t) := by simp
      have o1 : (w3.alloc (Obj.cells #[.slice r s t, .slice r' s' t'] 40)).cell? ⟨w3.heap.size, 1, none⟩ = some (.slice r' s' t') := by simp
      clear hb3 S1 S2 S c0 k1
      go_wp2_with fail
      refine (alive2_any _).mono ?_
      rintro e w4 ⟨rfl, hb4⟩
      replace B1 := below_from B1 hb4
      replace U1 := slB hb4 U1
      replace U2 := slB hb4 U2
      replace v1 := slB hb4 v1
      replace v2 := slB hb4 v2
      replace n0 := cellB hb4 n0
      replace n1 := cellB hb4 n1
      replace o0 := cellB hb4 o0
      replace o1 := cellB hb4 o1
      have q1 : (ev == ev) = true := by simp
      have q2 : (ek == ek) = true := by simp
      clear hb4
      go_wp2_with fail
      refine (Same_any p p' x y x' y' r r' s t s' t' _ _ _ _ _ U1 U2 v1 v2 (by omega) (by omega)).mono ?_
      rintro e w5 ⟨rfl, hb5⟩
      rw [sameB_refl, sameB_refl]
      replace B1 := below_from B1 hb5
      clear hb5
      go_wp2
      go_ret
      exact boolPost_mk rfl B1
end Go.Proofs.Ytocblckhlpihhaa
