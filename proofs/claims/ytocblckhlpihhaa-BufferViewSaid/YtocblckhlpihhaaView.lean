/- The walk of BufferView. -/
import Derived.Test.YtocblckhlpihhaaFoldA
import Derived.Test.YtocblckhlpihhaaRefN
namespace Go.Proofs.Ytocblckhlpihhaa
open Go.ChangeShapes Go.WideShapes Go.ChangeAt Go.RowKit

set_option maxRecDepth 100000 in
set_option maxHeartbeats 8000000 in
theorem View_walk (a a' : Option Addr) (n c n' c' : Nat) (ws ts : List Int) (q : Option Addr) (l d : Nat) (ps : List (Int × Int)) (at' : Int) (w : World) (S1 : Sl w a (min n 170) ws) (S2 : Sl w a' (min n' 170) ts) (h1 : n ≤ c) (h2 : n' ≤ c') (h3 : c ≤ 9223372036854775807) (h4 : c' ≤ 9223372036854775807)
    (S : Pl w q (min l 20) ps) (hf : Wfs ps) (hcap : CapOk q (min l 20) d) (hld : l ≤ d) (hat : (Lit.int .i64 at').wf = true) :
    Calls Try.prog 5 #[.slice a n c, .slice a' n' c', .slice q l d, .int .i64 at'] w (BoolPost true w) := by
  obtain ⟨m, hm⟩ : ∃ m, m = min l 20 := ⟨_, rfl⟩
  have HM := Lib.hid hm
  rw [← hm] at S hcap
  have hd : d ≤ 9223372036854775807 := hcap.2.1
  have hm20 : m ≤ 20 := by omega
  have HF := Lib.hid hf
  have HAT := Lib.hid hat
  have HCAP := Lib.hid hcap
  clear hcap hm hf hat
  go_enter Try.func5, Try.ntmps5
  go_upto_region 1 with fail
  go_cut [9, 2] (fun s7 s2 wx => LawCut w a a' q (min n 170) c (min n' 170) c' m d s7 s2 wx)
  case first =>
    have z0 : (w.alloc (Obj.cells #[.slice none 0 0, .slice none 0 0] 40)).drew.cell? ⟨w.heap.size, 0, none⟩ = some (.slice none 0 0) := cell_new (w := w) _ _ _ rfl rfl
    have z1 : (w.alloc (Obj.cells #[.slice none 0 0, .slice none 0 0] 40)).drew.cell? ⟨w.heap.size, 1, none⟩ = some (.slice none 0 0) := cell_new (w := w) _ _ _ rfl rfl
    have z2 : (w.alloc (Obj.cells #[.slice none 0 0, .slice none 0 0] 40)).drew.frozen? ⟨w.heap.size, 0, none⟩ = false := frozen_new (w := w) _ _ rfl
    have z3 : (w.alloc (Obj.cells #[.slice none 0 0, .slice none 0 0] 40)).drew.frozen? ⟨w.heap.size, 1, none⟩ = false := frozen_new (w := w) _ _ rfl
    by_cases h20 : l ≤ 20
    · have h20' : ¬ ((20 : Int) < (l : Int)) := by omega
      have hl1 : (l : Int) ≤ d := by omega
      go_region_with (go_at_call 17; refine (mem2_any a a' n c n' c' _ h1 h2 h3 h4).mono ?_; rintro e w1 ⟨rfl, hb1⟩; (try (have Y0 := cellB hb1 z0; have Y1 := cellB hb1 z1; have Y2 := frozenB hb1 z0 z2; have Y3 := frozenB hb1 z1 z3)); have HB1 := Lib.hid hb1; clear hb1)
      all_goals
        go_wp2_with fail
        go_meet
        have HH := HM.out
        first
          | exact lawCut_new (by congr 1; omega) (below_from (Below.refl _ _).drew HB1.out)
          | exact lawCut_set (g := w.heap.size) (by congr 1; omega) (Nat.le_refl _) (below_from ((Below.refl _ _).alloc (Nat.le_refl _) _).drew HB1.out) Y0 Y1 Y2 Y3
    · have h20' : (20 : Int) < (l : Int) := by omega
      have hl1 : (20 : Int) ≤ d := by omega
      have hl2 : 20 ≤ d := by omega
      go_region_with (go_at_call 17; refine (mem2_any a a' n c n' c' _ h1 h2 h3 h4).mono ?_; rintro e w1 ⟨rfl, hb1⟩; (try (have Y0 := cellB hb1 z0; have Y1 := cellB hb1 z1; have Y2 := frozenB hb1 z0 z2; have Y3 := frozenB hb1 z1 z3)); have HB1 := Lib.hid hb1; clear hb1)
      all_goals
        go_wp2_with fail
        go_meet
        have HH := HM.out
        first
          | exact lawCut_new (by congr 1; omega) (below_from (Below.refl _ _).drew HB1.out)
          | exact lawCut_set (g := w.heap.size) (by congr 1; omega) (Nat.le_refl _) (below_from ((Below.refl _ _).alloc (Nat.le_refl _) _).drew HB1.out) Y0 Y1 Y2 Y3
  case rest =>
    obtain ⟨g, rfl, rfl, hg, c0, k1, e0, e1, B⟩ := hcut
    generalize min n 170 = N at S1 c0
    generalize min n' 170 = N' at S2 k1
    replace S1 := slB B S1
    replace S2 := slB B S2
    replace S := plB B S
    clear h1 h2 h3 h4 hld e0 e1 HM
    go_wp2_with fail
    refine (Fold_any a a' N c N' c' q m d ws ts ps _ S1 S2 S HF.out (by omega)).mono ?_
    rintro e w1 ⟨p, x, y, p', x', y', rfl, u1, u2, hb1⟩
    obtain ⟨ev, hev⟩ : ∃ z, foldE ws ts ps = z := ⟨_, rfl⟩
    obtain ⟨ek, hek⟩ : ∃ z, foldN ws ts ps = z := ⟨_, rfl⟩
    rw [hev, hek]
    have HE := Lib.hid hev
    replace B := below_from B hb1
    have B1 := B.alloc B.size (Obj.cells #[.slice p x y, .slice p' x' y'] 40)
    replace S1 := slA (Obj.cells #[.slice p x y, .slice p' x' y'] 40) (slB hb1 S1)
    replace S2 := slA (Obj.cells #[.slice p x y, .slice p' x' y'] 40) (slB hb1 S2)
    replace S := plA (Obj.cells #[.slice p x y, .slice p' x' y'] 40) (plB hb1 S)
    replace c0 := cellA (Obj.cells #[.slice p x y, .slice p' x' y'] 40) (cellB hb1 c0)
    replace k1 := cellA (Obj.cells #[.slice p x y, .slice p' x' y'] 40) (cellB hb1 k1)
    have U1 := slA (Obj.cells #[.slice p x y, .slice p' x' y'] 40) u1.sl
    have U2 := slA (Obj.cells #[.slice p x y, .slice p' x' y'] 40) u2.sl
    have n0 : (w1.alloc (Obj.cells #[.slice p x y, .slice p' x' y'] 40)).cell? ⟨w1.heap.size, 0, none⟩ = some (.slice p x y) := by simp
    have n1 : (w1.alloc (Obj.cells #[.slice p x y, .slice p' x' y'] 40)).cell? ⟨w1.heap.size, 1, none⟩ = some (.slice p' x' y') := by simp
    clear hb1 hev hek u1 u2 B
    by_cases he : ev = 0
    · subst he
      obtain ⟨hmay, hok⟩ := fold_zero HE.out
      have hseen := fold_seen at' hok
      have hMW : foldMW ws ts ps = foldW ws ps := by rw [foldMW, if_pos HE.out]
      have hMT : foldMT ws ts ps = ts := by rw [foldMT, if_pos HE.out]
      rw [hMW] at U1
      rw [hMT] at U2
      obtain ⟨lv, hlv⟩ : ∃ z, loadZ ws ts at' = z := ⟨_, rfl⟩
      obtain ⟨uv, huv⟩ : ∃ z, usableZ ws ts at' = z := ⟨_, rfl⟩
      rw [hlv, huv] at hseen
      have HL := Lib.hid hlv
      have HU := Lib.hid huv
      have HS := Lib.hid hseen
      clear hmay hok hMW hMT hlv huv hseen
      go_wp2_with fail
      refine (Load_any p p' x y x' y' _ _ at' _ U1 U2 HAT.out).mono ?_
      rintro e w2 ⟨rfl, hb2⟩
      rw [HS.out.1, HS.out.2.2.1]
      replace B1 := below_from B1 hb2
      replace S1 := slB hb2 S1
      replace S2 := slB hb2 S2
      replace S := plB hb2 S
      replace c0 := cellB hb2 c0
      replace k1 := cellB hb2 k1
      clear hb2 U1 U2 n0 n1
      go_wp2_with fail
      refine (Load_any a a' N c N' c' _ _ at' _ S1 S2 HAT.out).mono ?_
      rintro e w3 ⟨rfl, hb3⟩
      rw [HL.out, HU.out]
      replace B1 := below_from B1 hb3
      replace S := plB hb3 S
      clear hb3 S1 S2 c0 k1
      go_wp2_with fail
      refine (Newest_any q m d ps at' _ S (by omega)).mono ?_
      rintro e w4 ⟨rfl, hb4⟩
      replace B1 := below_from B1 hb4
      clear hb4 S
      rw [newestV, newestB]
      have HS2 := Lib.hid HS.out.2.1
      obtain ⟨nv, hnv⟩ : ∃ z, newest ps at' = z := ⟨_, rfl⟩
      rw [hnv] at HS2 ⊢
      clear hnv HS
      cases nv with
      | some v =>
        obtain rfl : uv = 0 := HS2.out rfl
        rw [show (some v).getD lv = v from rfl, show (some v).getD 0 = v from rfl, show (some v).isSome = true from rfl]
        have q1 : (v == v) = true := by simp
        go_wp2_with fail
        refine (alive2_any _).mono ?_
        rintro e w5 ⟨rfl, hb5⟩
        replace B1 := below_from B1 hb5
        clear hb5
        go_wp2
        go_ret
        exact boolPost_mk rfl B1
      | none =>
        rw [show (none : Option Int).getD lv = lv from rfl, show (none : Option Int).getD 0 = 0 from rfl, show (none : Option Int).isSome = false from rfl]
        have q1 : (lv == lv) = true := by simp
        have q2 : (uv == uv) = true := by simp
        go_wp2_with fail
        refine (alive2_any _).mono ?_
        rintro e w5 ⟨rfl, hb5⟩
        replace B1 := below_from B1 hb5
        clear hb5
        go_wp2
        go_ret
        exact boolPost_mk rfl B1
    · have q1 : (ev != 0) = true := by simpa using he
      have hMW : foldMW ws ts ps = [] := by rw [foldMW, if_neg (by rw [HE.out]; exact he)]
      rw [hMW] at U1
      obtain rfl : 0 = x := U1.1
      clear hMW he U1 U2 S1 S2 S c0 k1
      go_wp2_with fail
      refine (alive2_any _).mono ?_
      rintro e w2 ⟨rfl, hb2⟩
      replace B1 := below_from B1 hb2
      replace n0 := cellB hb2 n0
      clear hb2
      go_wp2
      go_ret
      exact boolPost_mk rfl B1
end Go.Proofs.Ytocblckhlpihhaa
