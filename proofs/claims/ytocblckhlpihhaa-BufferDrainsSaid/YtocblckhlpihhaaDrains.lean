/- The walk of BufferDrains. -/
import Derived.Test.YtocblckhlpihhaaFoldA
import Derived.Test.YtocblckhlpihhaaRefN
import Derived.Test.YtocblckhlpihhaaParts
import Derived.Test.YtocblckhlpihhaaRefC
namespace Go.Proofs.Ytocblckhlpihhaa
open Go.ChangeShapes Go.WideShapes Go.ChangeAt Go.RowKit

/-- the buffer at work: its row not in block g -/
def BufX (g : Nat) (w : World) (b : Value) (n : Nat) (ps : List (Int × Int)) : Prop := ∃ q c, b = .slice q n c ∧ CapOk q n c ∧ ps.length = n ∧ (n = 0 ∨ ∃ b o, q = some ⟨b, o, none⟩ ∧ b ≠ g ∧ PRow w b o ps)
theorem plX_set {g : Nat} {w : World} {q : Option Addr} {n : Nat} {ps : List (Int × Int)} (k : Nat) (v : Value) (h : ps.length = n ∧ (n = 0 ∨ ∃ b o, q = some ⟨b, o, none⟩ ∧ b ≠ g ∧ PRow w b o ps)) :
    ps.length = n ∧ (n = 0 ∨ ∃ b o, q = some ⟨b, o, none⟩ ∧ b ≠ g ∧ PRow (w.setCell ⟨g, k, none⟩ v) b o ps) := by
  refine ⟨h.1, h.2.imp id ?_⟩
  rintro ⟨b, o, rfl, hf, r⟩
  refine ⟨b, o, rfl, hf, fun i hi => ?_⟩
  rw [World.cell?_setCell_other, World.cell?_setCell_other]
  · exact r i hi
  · intro e; simp at e <;> omega
  · intro e; simp at e <;> omega
theorem plX_pl {g : Nat} {w : World} {q : Option Addr} {n : Nat} {ps : List (Int × Int)} (h : ps.length = n ∧ (n = 0 ∨ ∃ b o, q = some ⟨b, o, none⟩ ∧ b ≠ g ∧ PRow w b o ps)) : Pl w q n ps :=
  ⟨h.1, h.2.imp id fun ⟨b, o, e, _, r⟩ => ⟨b, o, e, r⟩⟩
theorem plX_F {F g : Nat} {w : World} {q : Option Addr} {n : Nat} {ps : List (Int × Int)} (hg : g < F) (h : PlF F w q n ps) : ps.length = n ∧ (n = 0 ∨ ∃ b o, q = some ⟨b, o, none⟩ ∧ b ≠ g ∧ PRow w b o ps) :=
  ⟨h.1, h.2.imp id fun ⟨b, o, e, hb, r⟩ => ⟨b, o, e, by omega, r⟩⟩
theorem plX_old {g : Nat} {w : World} {q : Option Addr} {n : Nat} {ps : List (Int × Int)} (hg : w.heap.size ≤ g) (h : Pl w q n ps) : ps.length = n ∧ (n = 0 ∨ ∃ b o, q = some ⟨b, o, none⟩ ∧ b ≠ g ∧ PRow w b o ps) := by
  refine ⟨h.1, ?_⟩
  by_cases h0 : n = 0
  · exact .inl h0
  · obtain ⟨b, o, e, r⟩ := h.2.resolve_left h0
    have := cell_lt (r 0 (by have := h.1; omega)).1
    dsimp only at this
    exact .inr ⟨b, o, e, by omega, r⟩
theorem plX_B {g : Nat} {w w' : World} {q : Option Addr} {n : Nat} {ps : List (Int × Int)} (hb : Below w.heap.size w w') (h : ps.length = n ∧ (n = 0 ∨ ∃ b o, q = some ⟨b, o, none⟩ ∧ b ≠ g ∧ PRow w b o ps)) : ps.length = n ∧ (n = 0 ∨ ∃ b o, q = some ⟨b, o, none⟩ ∧ b ≠ g ∧ PRow w' b o ps) :=
  ⟨h.1, h.2.imp id fun ⟨b, o, e, f, r⟩ => ⟨b, o, e, f, prowB hb r⟩⟩
/-- what is seen at each moment on the way -/
theorem drain_seen {ws ts : List Int} {ps : List (Int × Int)} {k : Nat} (x : Int) (hk : k ≤ ps.length) (h : okTo ws ts ps ps.length) :
    loadZ (foldW ws ps) ts x = (newest (ps.drop k) x).getD (loadZ (foldW ws (ps.take k)) ts x) ∧ ((newest (ps.drop k) x).isSome = true → usableZ (foldW ws (ps.take k)) ts x = 0) ∧ usableZ (foldW ws ps) ts x = usableZ (foldW ws (ps.take k)) ts x := by
  have hu := fold_usable hk (fun j hj => h j (by omega))
  have ho : okTo (foldW ws (ps.take k)) ts (ps.drop k) (ps.drop k).length := by
    intro j hj
    rw [List.length_drop] at hj
    have e : (ps.drop k).getD j (0, 0) = ps.getD (k + j) (0, 0) := by simp [List.getElem?_drop]
    rw [e, hu.2.2]
    exact h (k + j) (by omega)
  have hs := fold_seen x ho
  rw [foldW_split] at hs
  exact ⟨hs.1, hs.2.1, hs.2.2.1⟩

set_option maxRecDepth 100000 in
set_option maxHeartbeats 8000000 in
theorem Drains_walk (a a' : Option Addr) (n c n' c' : Nat) (ws ts : List Int) (q : Option Addr) (l d : Nat) (ps : List (Int × Int)) (at' : Int) (w : World) (S1 : Sl w a (min n 170) ws) (S2 : Sl w a' (min n' 170) ts) (h1 : n ≤ c) (h2 : n' ≤ c') (h3 : c ≤ 9223372036854775807) (h4 : c' ≤ 9223372036854775807)
    (S : Pl w q (min l 20) ps) (hf : Wfs ps) (hcap : CapOk q (min l 20) d) (hld : l ≤ d) (hat : (Lit.int .i64 at').wf = true) :
    Calls Try.prog 6 #[.slice a n c, .slice a' n' c', .slice q l d, .int .i64 at'] w (BoolPost true w) := by
  obtain ⟨m, hm⟩ : ∃ m, m = min l 20 := ⟨_, rfl⟩
  have HM := Lib.hid hm
  rw [← hm] at S hcap
  have hd : d ≤ 9223372036854775807 := hcap.2.1
  have hm20 : m ≤ 20 := by omega
  have HF := Lib.hid hf
  have HAT := Lib.hid hat
  have HCAP := Lib.hid hcap
  clear hcap hm hf hat
  go_enter Try.func6, Try.ntmps6
  go_upto_region 1 with fail
  go_cut [9, 2] (fun s7 s2 wx => LawCut w a a' q (min n 170) c (min n' 170) c' m d s7 s2 wx)
  case first =>
    have z0 : (w.alloc (Obj.cells #[.slice none 0 0, .slice none 0 0] 40)).drew.cell? ⟨w.heap.size, 0, none⟩ = some (.slice none 0 0) := cell_new (w := w) _ _ _ rfl rfl
    have z1 : (w.alloc (Obj.cells #[.slice none 0 0, .slice none 0 0] 40)).drew.cell? ⟨w.heap.size, 1, none⟩ = some (.slice none 0 0) := cell_new (w := w) _ _ _ rfl rfl
    have z2 : (w.alloc (Obj.cells #[.slice none 0 0, .slice none 0 0] 40)).drew.frozen? ⟨w.heap.size, 0, none⟩ = false := frozen_new (w := w) _ _ rfl
    have z3 : (w.alloc (Obj.cells #[.slice none 0 0, .slice none 0 0] 40)).drew.frozen? ⟨w.heap.size, 1, none⟩ = false := frozen_new (w := w) _ _ rfl
    by_cases h20 : l ≤ 20
    · have h20' : ¬ ((20 : Int) < (l : Int)) := by omega
      have hl1 : (l : Int) ≤ d := by omega
      go_region_with (go_at_call 17; refine (mem2_any a a' n c n' c' _ h1 h2 h3 h4).mono ?_; rintro e w1 ⟨rfl, hb1⟩; (try (have Y0 := cellB hb1 z0; have Y1 := cellB hb1 z1; have Y2 := frozenB hb1 z0 z2; have Y3 := frozenB hb1 z1 z3)); have HB1 := Lib.hid hb1; clear hb1)
      all_goals
        go_wp2_with fail
        go_meet
        have HH := HM.out
        first
          | exact lawCut_new (by congr 1; omega) (below_from (Below.refl _ _).drew HB1.out)
          | exact lawCut_set (g := w.heap.size) (by congr 1; omega) (Nat.le_refl _) (below_from ((Below.refl _ _).alloc (Nat.le_refl _) _).drew HB1.out) Y0 Y1 Y2 Y3
    · have h20' : (20 : Int) < (l : Int) := by omega
      have hl1 : (20 : Int) ≤ d := by omega
      have hl2 : 20 ≤ d := by omega
      go_region_with (go_at_call 17; refine (mem2_any a a' n c n' c' _ h1 h2 h3 h4).mono ?_; rintro e w1 ⟨rfl, hb1⟩; (try (have Y0 := cellB hb1 z0; have Y1 := cellB hb1 z1; have Y2 := frozenB hb1 z0 z2; have Y3 := frozenB hb1 z1 z3)); have HB1 := Lib.hid hb1; clear hb1)
      all_goals
        go_wp2_with fail
        go_meet
        have HH := HM.out
        first
          | exact lawCut_new (by congr 1; omega) (below_from (Below.refl _ _).drew HB1.out)
          | exact lawCut_set (g := w.heap.size) (by congr 1; omega) (Nat.le_refl _) (below_from ((Below.refl _ _).alloc (Nat.le_refl _) _).drew HB1.out) Y0 Y1 Y2 Y3
  case rest =>
    obtain ⟨g, rfl, rfl, hg, c0, k1, e0, e1, B⟩ := hcut
    generalize min n 170 = N at S1 c0
    generalize min n' 170 = N' at S2 k1
    have SX := plX_B B (plX_old hg S)
    have M1 : SlP (fun b => b ≠ g) wc a N ws := slPB B (slP_old (fun b hb => by omega) S1)
    have M2 : SlP (fun b => b ≠ g) wc a' N' ts := slPB B (slP_old (fun b hb => by omega) S2)
    have hgc := cell_lt c0
    dsimp only at hgc
    replace S1 := slB B S1
    replace S2 := slB B S2
    replace S := plB B S
    clear h1 h2 h3 h4 hld HM
    go_wp2_with fail
    refine (Fold_any a a' N c N' c' q m d ws ts ps _ S1 S2 S HF.out (by omega)).mono ?_
    rintro e w1 ⟨p, x, y, p', x', y', rfl, u1, u2, hb1⟩
    obtain ⟨ev, hev⟩ : ∃ z, foldE ws ts ps = z := ⟨_, rfl⟩
    obtain ⟨ek, hek⟩ : ∃ z, foldN ws ts ps = z := ⟨_, rfl⟩
    rw [hev, hek]
    have HE := Lib.hid hev
    replace B := below_from B hb1
    have B1 := B.alloc B.size (Obj.cells #[.slice p x y, .slice p' x' y'] 40)
    replace SX := plX_B ((Below.refl _ _).alloc (Nat.le_refl _) (Obj.cells #[.slice p x y, .slice p' x' y'] 40)) (plX_B hb1 SX)
    replace M1 := slPA (Obj.cells #[.slice p x y, .slice p' x' y'] 40) (slPB hb1 M1)
    replace M2 := slPA (Obj.cells #[.slice p x y, .slice p' x' y'] 40) (slPB hb1 M2)
    have G0 := cellA (Obj.cells #[.slice p x y, .slice p' x' y'] 40) (cellB hb1 c0)
    have G1 := cellA (Obj.cells #[.slice p x y, .slice p' x' y'] 40) (cellB hb1 k1)
    have hg1 : g < w1.heap.size := cell_lt (cellB hb1 c0)
    have E0 := (frozen_old (k := 0) (Obj.cells #[.slice p x y, .slice p' x' y'] 40) hg1).trans (frozenB hb1 c0 e0)
    have E1 := (frozen_old (k := 1) (Obj.cells #[.slice p x y, .slice p' x' y'] 40) hg1).trans (frozenB hb1 k1 e1)
    have U1 := slPA (Obj.cells #[.slice p x y, .slice p' x' y'] 40) (slP_slF (Q := fun b => b ≠ g) (fun b hb => by omega) u1)
    have U2 := slPA (Obj.cells #[.slice p x y, .slice p' x' y'] 40) (slP_slF (Q := fun b => b ≠ g) (fun b hb => by omega) u2)
    have n0 : (w1.alloc (Obj.cells #[.slice p x y, .slice p' x' y'] 40)).cell? ⟨w1.heap.size, 0, none⟩ = some (.slice p x y) := by simp
    have n1 : (w1.alloc (Obj.cells #[.slice p x y, .slice p' x' y'] 40)).cell? ⟨w1.heap.size, 1, none⟩ = some (.slice p' x' y') := by simp
    have HN := Lib.hid S.1
    clear hb1 hev hek u1 u2 B S S1 S2 c0 k1 e0 e1
    by_cases he : ev = 0
    · subst he
      obtain ⟨hmay, hok⟩ := fold_zero HE.out
      have hMW : foldMW ws ts ps = foldW ws ps := by rw [foldMW, if_pos HE.out]
      have hMT : foldMT ws ts ps = ts := by rw [foldMT, if_pos HE.out]
      rw [hMW] at U1
      rw [hMT] at U2
      have HOK := Lib.hid hok
      have HMAY := Lib.hid hmay
      obtain ⟨want, hwant⟩ : ∃ z, loadZ (foldW ws ps) ts at' = z := ⟨_, rfl⟩
      obtain ⟨why, hwhy⟩ : ∃ z, usableZ (foldW ws ps) ts at' = z := ⟨_, rfl⟩
      have HWA := Lib.hid hwant
      have HWY := Lib.hid hwhy
      clear hmay hok hMW hMT hwant hwhy
      go_wp2_with fail
      obtain ⟨h, hh⟩ : ∃ h, w1.heap.size = h := ⟨_, rfl⟩
      obtain ⟨W0, hW0⟩ : ∃ W0, W0 = w1.alloc (Obj.cells #[.slice p x y, .slice p' x' y'] 40) := ⟨_, rfl⟩
      rw [← hW0] at B1 SX M1 M2 G0 G1 E0 E1 U1 U2 n0 n1 ⊢
      rw [hh] at n0 n1 hg1 ⊢
      clear hW0 hh
      refine (Load_any p p' x y x' y' _ _ at' _ U1.sl U2.sl HAT.out).mono ?_
      rintro e w2 ⟨rfl, hb2⟩
      rw [HWA.out, HWY.out]
      replace B1 := below_from B1 hb2
      replace SX := plX_B hb2 SX
      replace M1 := slPB hb2 M1
      replace M2 := slPB hb2 M2
      replace U1 := slPB hb2 U1
      replace U2 := slPB hb2 U2
      replace E0 := frozenB hb2 G0 E0
      replace E1 := frozenB hb2 G1 E1
      replace G0 := cellB hb2 G0
      replace G1 := cellB hb2 G1
      replace n0 := cellB hb2 n0
      replace n1 := cellB hb2 n1
      have HI := Lib.hid (And.intro B1 (And.intro SX (And.intro M1 (And.intro M2 (And.intro U1 (And.intro U2 (And.intro E0 (And.intro E1 (And.intro G0 (And.intro G1 (And.intro n0 n1)))))))))))
      clear hb2 B1 SX M1 M2 U1 U2 E0 E1 G0 G1 n0 n1
      go_wp2_with fail
      go_loopw [2, 56] (fun b i wr => ∃ k : Nat, k ≤ m ∧ i = .int .i64 k ∧ BufX g wr b (m - k) (ps.drop k) ∧ (∃ r1 s1 t1 r2 s2 t2, wr.cell? ⟨g, 0, none⟩ = some (.slice r1 s1 t1) ∧ wr.cell? ⟨g, 1, none⟩ = some (.slice r2 s2 t2) ∧ SlP (fun b => b ≠ g) wr r1 s1 (foldW ws (ps.take k)) ∧ SlP (fun b => b ≠ g) wr r2 s2 ts) ∧ wr.frozen? ⟨g, 0, none⟩ = false ∧ wr.frozen? ⟨g, 1, none⟩ = false ∧ wr.cell? ⟨h, 0, none⟩ = some (.slice p x y) ∧ wr.cell? ⟨h, 1, none⟩ = some (.slice p' x' y') ∧ SlP (fun b => b ≠ g) wr p x (foldW ws ps) ∧ SlP (fun b => b ≠ g) wr p' x' ts ∧ Below w.heap.size w wr) (fun _ i _ => m - (intOf i).toNat)
      case atStart =>
        obtain ⟨B1, SX, M1, M2, U1, U2, E0, E1, G0, G1, n0, n1⟩ := HI.out
        exact ⟨0, by omega, rfl, ⟨q, d, rfl, HCAP.out, SX⟩, ⟨a, N, c, a', N', c', G0, G1, by simpa [foldW] using M1, M2⟩, E0, E1, n0, n1, U1, U2, B1⟩
      case round =>
        obtain ⟨k, hk, rfl, ⟨q', c', rfl, hcap, hX⟩, ⟨r1, s1, t1, r2, s2, t2, G0, G1, M1, M2⟩, E0, E1, n0, n1, U1, U2, B1⟩ := hrel
        clear HI
        by_cases hlt : k < m
        · have hkl : k < ps.length := by rw [HN.out]; exact hlt
          have hdf := drop_first hkl
          have hst := fold_store (ws := ws) (ts := ts) hkl (fun j hj => HOK.out j (by omega)) (HOK.out k hkl)
          have hwf := HF.out k hkl
          have HDS := Lib.hid (drain_seen (k := k + 1) at' (by omega) HOK.out)
          have HDL := Lib.hid (show (ps.drop (k + 1)).length = m - (k + 1) by rw [List.length_drop, HN.out])
          obtain ⟨⟨u, v⟩, hpk⟩ : ∃ z, ps.getD k (0, 0) = z := ⟨_, rfl⟩
          rw [hpk] at hdf hst hwf
          dsimp only at hst hwf
          have HDF := Lib.hid hdf
          have HST := Lib.hid hst
          have HWF := Lib.hid hwf
          obtain ⟨K, hK⟩ : ∃ K, m - k = K := ⟨_, rfl⟩
          obtain ⟨j, hj⟩ : ∃ j, m - (k + 1) = j := ⟨_, rfl⟩
          rw [hK] at hX hcap ⊢
          rw [hj] at HDL
          have HK := Lib.hid hK
          have HJ := Lib.hid hj
          have q1 : ((j : Int) != (K : Int) - 1) = false := by
            have : (j : Int) = (K : Int) - 1 := by omega
            simp [this]
          have hj20 : j ≤ 20 := by omega
          have i1 : (1 : Int) ≤ K := by omega
          have i2 : (K : Int) ≤ 20 := by omega
          have HCA := Lib.hid hcap
          have HS1 := Lib.hid (plX_pl hX)
          clear hpk hdf hst hwf hkl hK hj hcap hX
          go_wp2_with fail
          refine (Pop_any q' K c' (ps.drop k) _ HS1.out HCA.out (by omega)).mono ?_
          rintro e w3 ⟨t, f, rfl, hc3, s3, hb3⟩
          rw [HDF.out.1, HDF.out.2.2]
          rw [HDF.out.2.1] at hc3 s3 ⊢
          rw [HDL.out] at hc3 s3 ⊢
          have hgr := cell_lt G0
          dsimp only at hgr
          have A := (Below.refl w3.heap.size w3).alloc (Nat.le_refl _) (Obj.cells #[.int .i64 u, .int .i64 v] 24)
          have SX := plX_B A (plX_F hgr s3)
          replace B1 := below_from B1 (below_from hb3 A)
          replace hb3 := below_from hb3 A
          replace M1 := slPB hb3 M1
          replace M2 := slPB hb3 M2
          replace U1 := slPB hb3 U1
          replace U2 := slPB hb3 U2
          replace E0 := frozenB hb3 G0 E0
          replace E1 := frozenB hb3 G1 E1
          replace G0 := cellB hb3 G0
          replace G1 := cellB hb3 G1
          replace n0 := cellB hb3 n0
          replace n1 := cellB hb3 n1
          have HC3 := Lib.hid hc3
          have v0 : (w3.alloc (Obj.cells #[.int .i64 u, .int .i64 v] 24)).cell? ⟨w3.heap.size, 0, none⟩ = some (.int .i64 u) := by simp
          have v1 : (w3.alloc (Obj.cells #[.int .i64 u, .int .i64 v] 24)).cell? ⟨w3.heap.size, 1, none⟩ = some (.int .i64 v) := by simp
          clear hb3 A hc3 s3
          go_wp2_with fail
          refine (Store_any r1 r2 s1 t1 s2 t2 _ ts u v _ M1.sl M2.sl HWF.out).mono ?_
          rintro e w4 ⟨z1, l1, d1, z2, l2, d2, rfl, x1, x2, hb4⟩
          rw [HST.out.2.2]
          rw [HST.out.1] at x1
          rw [HST.out.2.1] at x2
          have hgq := cell_lt G0
          dsimp only at hgq
          have A := (Below.refl w4.heap.size w4).alloc (Nat.le_refl _) (Obj.cells #[.slice z1 l1 d1, .slice z2 l2 d2] 40)
          have X1 := slPB A (slP_slF (Q := fun b => b ≠ g) (fun b hb => by omega) x1)
          have X2 := slPB A (slP_slF (Q := fun b => b ≠ g) (fun b hb => by omega) x2)
          replace B1 := below_from B1 (below_from hb4 A)
          replace hb4 := below_from hb4 A
          replace SX := plX_B hb4 SX
          replace U1 := slPB hb4 U1
          replace U2 := slPB hb4 U2
          replace E0 := frozenB hb4 G0 E0
          replace E1 := frozenB hb4 G1 E1
          replace G0 := cellB hb4 G0
          replace G1 := cellB hb4 G1
          replace n0 := cellB hb4 n0
          replace n1 := cellB hb4 n1
          have y0 : (w4.alloc (Obj.cells #[.slice z1 l1 d1, .slice z2 l2 d2] 40)).cell? ⟨w4.heap.size, 0, none⟩ = some (.slice z1 l1 d1) := by simp
          have y1 : (w4.alloc (Obj.cells #[.slice z1 l1 d1, .slice z2 l2 d2] 40)).cell? ⟨w4.heap.size, 1, none⟩ = some (.slice z2 l2 d2) := by simp
          clear hb4 A x1 x2 M1 M2 v0 v1
          go_wp2_with fail
          have hgh : g ≠ h := by omega
          have b2 : Below w.heap.size w (((w4.alloc (Obj.cells #[.slice z1 l1 d1, .slice z2 l2 d2] 40)).setCell ⟨g, 0, none⟩ (.slice z1 l1 d1)).setCell ⟨g, 1, none⟩ (.slice z2 l2 d2)) := (B1.setCell hg _).setCell hg _
          have b3 := plX_set 1 (.slice z2 l2 d2) (plX_set 0 (.slice z1 l1 d1) SX)
          have b4 := slP_set ⟨g, 1, none⟩ (fun b hb => hb) (.slice z2 l2 d2) (slP_set ⟨g, 0, none⟩ (fun b hb => hb) (.slice z1 l1 d1) X1)
          have b5 := slP_set ⟨g, 1, none⟩ (fun b hb => hb) (.slice z2 l2 d2) (slP_set ⟨g, 0, none⟩ (fun b hb => hb) (.slice z1 l1 d1) X2)
          have b6 := slP_set ⟨g, 1, none⟩ (fun b hb => hb) (.slice z2 l2 d2) (slP_set ⟨g, 0, none⟩ (fun b hb => hb) (.slice z1 l1 d1) U1)
          have b7 := slP_set ⟨g, 1, none⟩ (fun b hb => hb) (.slice z2 l2 d2) (slP_set ⟨g, 0, none⟩ (fun b hb => hb) (.slice z1 l1 d1) U2)
          have b8 := set2_0 (w := w4.alloc (Obj.cells #[.slice z1 l1 d1, .slice z2 l2 d2] 40)) (g := g) (.slice z1 l1 d1) (.slice z2 l2 d2) (by rw [G0]; rfl)
          have b9 := set2_1 (w := w4.alloc (Obj.cells #[.slice z1 l1 d1, .slice z2 l2 d2] 40)) (g := g) (.slice z1 l1 d1) (.slice z2 l2 d2) (by rw [G1]; rfl)
          have b10 : (((w4.alloc (Obj.cells #[.slice z1 l1 d1, .slice z2 l2 d2] 40)).setCell ⟨g, 0, none⟩ (.slice z1 l1 d1)).setCell ⟨g, 1, none⟩ (.slice z2 l2 d2)).cell? ⟨h, 0, none⟩ = some (.slice p x y) := by
            rw [World.cell?_setCell_other, World.cell?_setCell_other]
            · exact n0
            · intro e; simp at e <;> omega
            · intro e; simp at e <;> omega
          have b11 : (((w4.alloc (Obj.cells #[.slice z1 l1 d1, .slice z2 l2 d2] 40)).setCell ⟨g, 0, none⟩ (.slice z1 l1 d1)).setCell ⟨g, 1, none⟩ (.slice z2 l2 d2)).cell? ⟨h, 1, none⟩ = some (.slice p' x' y') := by
            rw [World.cell?_setCell_other, World.cell?_setCell_other]
            · exact n1
            · intro e; simp at e <;> omega
            · intro e; simp at e <;> omega
          have b12 : (((w4.alloc (Obj.cells #[.slice z1 l1 d1, .slice z2 l2 d2] 40)).setCell ⟨g, 0, none⟩ (.slice z1 l1 d1)).setCell ⟨g, 1, none⟩ (.slice z2 l2 d2)).frozen? ⟨g, 0, none⟩ = false := by rw [World.frozen?_setCell, World.frozen?_setCell]; exact E0
          have b13 : (((w4.alloc (Obj.cells #[.slice z1 l1 d1, .slice z2 l2 d2] 40)).setCell ⟨g, 0, none⟩ (.slice z1 l1 d1)).setCell ⟨g, 1, none⟩ (.slice z2 l2 d2)).frozen? ⟨g, 1, none⟩ = false := by rw [World.frozen?_setCell, World.frozen?_setCell]; exact E1
          obtain ⟨W, hW⟩ : ∃ W, W = (((w4.alloc (Obj.cells #[.slice z1 l1 d1, .slice z2 l2 d2] 40)).setCell ⟨g, 0, none⟩ (.slice z1 l1 d1)).setCell ⟨g, 1, none⟩ (.slice z2 l2 d2)) := ⟨_, rfl⟩
          rw [← hW] at b2 b3 b4 b5 b6 b7 b8 b9 b10 b11 b12 b13 ⊢
          clear hW B1 SX X1 X2 U1 U2 G0 G1 E0 E1 n0 n1 y0 y1
          refine (Newest_any t j f (ps.drop (k + 1)) at' _ (plX_pl b3) (by omega)).mono ?_
          rintro e w5 ⟨rfl, hb5⟩
          rw [newestV, newestB]
          replace b2 := below_from b2 hb5
          replace b3 := plX_B hb5 b3
          replace b4 := slPB hb5 b4
          replace b5 := slPB hb5 b5
          replace b6 := slPB hb5 b6
          replace b7 := slPB hb5 b7
          replace b12 := frozenB hb5 b8 b12
          replace b13 := frozenB hb5 b9 b13
          replace b8 := cellB hb5 b8
          replace b9 := cellB hb5 b9
          replace b10 := cellB hb5 b10
          replace b11 := cellB hb5 b11
          clear hb5
          obtain ⟨nv, hnv⟩ : ∃ z, newest (ps.drop (k + 1)) at' = z := ⟨_, rfl⟩
          obtain ⟨lv, hlv⟩ : ∃ z, loadZ (foldW ws (ps.take (k + 1))) ts at' = z := ⟨_, rfl⟩
          obtain ⟨uv, huv⟩ : ∃ z, usableZ (foldW ws (ps.take (k + 1))) ts at' = z := ⟨_, rfl⟩
          have hds := HDS.out
          rw [hnv, hlv, huv, HWA.out, HWY.out] at hds
          rw [hnv]
          have HLV := Lib.hid hlv
          have HUV := Lib.hid huv
          have HD := Lib.hid hds
          clear hnv hlv huv hds HDS
          cases nv with
          | some z =>
            obtain rfl : uv = 0 := HD.out.2.1 rfl
            have hwz : want = z := HD.out.1
            subst hwz
            rw [show (some want).getD 0 = want from rfl, show (some want).isSome = true from rfl]
            have q2 : (want != want) = false := by simp
            clear HD
            go_wp2_with fail
            refine (Load_any z1 z2 l1 d1 l2 d2 _ _ at' _ b4.sl b5.sl HAT.out).mono ?_
            rintro e w6 ⟨rfl, hb6⟩
            rw [HLV.out, HUV.out]
            have HI := Lib.hid (And.intro (below_from b2 hb6) (And.intro (plX_B hb6 b3) (And.intro (slPB hb6 b4) (And.intro (slPB hb6 b5) (And.intro (slPB hb6 b6) (And.intro (slPB hb6 b7) (And.intro (cellB hb6 b8) (And.intro (cellB hb6 b9) (And.intro (cellB hb6 b10) (And.intro (cellB hb6 b11) (And.intro (frozenB hb6 b8 b12) (frozenB hb6 b9 b13))))))))))))
            clear hb6 b2 b3 b4 b5 b6 b7 b8 b9 b10 b11 b12 b13
            go_wp2_with fail
            go_roundw
            case rel =>
              obtain ⟨b2, b3, b4, b5, b6, b7, b8, b9, b10, b11, b12, b13⟩ := HI.out
              exact ⟨k + 1, by omega, by go_num, by rw [HJ.out]; exact ⟨t, f, rfl, HC3.out, b3⟩, ⟨z1, l1, d1, z2, l2, d2, b8, b9, b4, b5⟩, b12, b13, b10, b11, b6, b7, b2⟩
            case measure => simp [intOf]; omega
          | none =>
            have hwz : want = lv := HD.out.1
            have hyz : why = uv := HD.out.2.2
            subst hwz
            subst hyz
            rw [show (none : Option Int).getD 0 = 0 from rfl, show (none : Option Int).isSome = false from rfl]
            have q2 : (want != want) = false := by simp
            have q3 : (why != why) = false := by simp
            clear HD
            go_wp2_with fail
            refine (Load_any z1 z2 l1 d1 l2 d2 _ _ at' _ b4.sl b5.sl HAT.out).mono ?_
            rintro e w6 ⟨rfl, hb6⟩
            rw [HLV.out, HUV.out]
            have HI := Lib.hid (And.intro (below_from b2 hb6) (And.intro (plX_B hb6 b3) (And.intro (slPB hb6 b4) (And.intro (slPB hb6 b5) (And.intro (slPB hb6 b6) (And.intro (slPB hb6 b7) (And.intro (cellB hb6 b8) (And.intro (cellB hb6 b9) (And.intro (cellB hb6 b10) (And.intro (cellB hb6 b11) (And.intro (frozenB hb6 b8 b12) (frozenB hb6 b9 b13))))))))))))
            clear hb6 b2 b3 b4 b5 b6 b7 b8 b9 b10 b11 b12 b13
            go_wp2_with fail
            go_roundw
            case rel =>
              obtain ⟨b2, b3, b4, b5, b6, b7, b8, b9, b10, b11, b12, b13⟩ := HI.out
              exact ⟨k + 1, by omega, by go_num, by rw [HJ.out]; exact ⟨t, f, rfl, HC3.out, b3⟩, ⟨z1, l1, d1, z2, l2, d2, b8, b9, b4, b5⟩, b12, b13, b10, b11, b6, b7, b2⟩
            case measure => simp [intOf]; omega
        · obtain rfl : k = m := by omega
          have hT : ps.take k = ps := List.take_of_length_le (by rw [HN.out]; omega)
          rw [hT] at M1
          have hz := mayB_size HMAY.out
          have hfl := (fold_seen at' HOK.out).2.2.2.2
          have hl1 := M1.1
          have hl2 := M2.1
          have hl3 := U1.1
          have hl4 := U2.1
          have hs1 : s1 ≤ 160 := by omega
          have hs2 : s2 ≤ 160 := by omega
          clear hT hz hfl hl1 hl2 hl3 hl4 hX E0 E1
          go_wp2_with fail
          refine (alive2_any _).mono ?_
          rintro e w3 ⟨rfl, hb3⟩
          replace B1 := below_from B1 hb3
          replace M1 := slPB hb3 M1
          replace M2 := slPB hb3 M2
          replace U1 := slPB hb3 U1
          replace U2 := slPB hb3 U2
          replace G0 := cellB hb3 G0
          replace G1 := cellB hb3 G1
          replace n0 := cellB hb3 n0
          replace n1 := cellB hb3 n1
          clear hb3
          go_wp2_with fail
          refine (Same_any r1 r2 s1 t1 s2 t2 p p' x y x' y' _ _ _ _ _ M1.sl M2.sl U1.sl U2.sl (by omega) (by omega)).mono ?_
          rintro e w4 ⟨rfl, hb4⟩
          rw [sameB_refl, sameB_refl]
          replace B1 := below_from B1 hb4
          clear hb4
          go_wp2
          go_ret
          exact boolPost_mk rfl B1
    · have q1 : (ev != 0) = true := by simpa using he
      have hMW : foldMW ws ts ps = [] := by rw [foldMW, if_neg (by rw [HE.out]; exact he)]
      rw [hMW] at U1
      obtain rfl : 0 = x := U1.1
      clear hMW he U1 U2 M1 M2 SX G0 G1 E0 E1
      go_wp2_with fail
      refine (alive2_any _).mono ?_
      rintro e w2 ⟨rfl, hb2⟩
      replace B1 := below_from B1 hb2
      replace n0 := cellB hb2 n0
      clear hb2
      go_wp2
      go_ret
      exact boolPost_mk rfl B1
end Go.Proofs.Ytocblckhlpihhaa
