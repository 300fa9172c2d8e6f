/- The walk of TsoAtoms. -/
import Derived.Test.YteojpdhmhjoeiaaAliveT
import Derived.Test.YteojpdhmhjoeiaaMathQ
import Derived.Test.YteojpdhmhjoeiaaTsoK
namespace Go.Proofs.Yteojpdhmhjoeiaa
open Go.ChangeShapes Go.WideShapes Go.ChangeAt Go.RowKit

theorem loadZ_range {ws ts : List Int} {x : Int} (hw : ∀ i, i < ws.length → (Lit.int .i64 (ws.getD i 0)).wf = true) : -9223372036854775808 ≤ loadZ ws ts x ∧ loadZ ws ts x ≤ 9223372036854775807 := by
  unfold loadZ
  split
  · rename_i h
    obtain ⟨_, h0, h1, _⟩ := usable_zero h
    have h2 := hw x.toNat (by omega)
    generalize ws.getD x.toNat 0 = v at h2 ⊢
    simp [Lit.wf] at h2
    have h3 : IntKind.i64.min = -9223372036854775808 := by rfl
    have h4 : IntKind.i64.max = 9223372036854775807 := by rfl
    omega
  · omega

theorem isRow_wf {w : World} {a : Option Addr} {len cap : Nat} {zs : List Int} (h : IsRow .i64 w a len cap zs) (k : Nat) : ∀ i, i < (zs.take k).length → (Lit.int .i64 ((zs.take k).getD i 0)).wf = true := by
  have H : ∀ n ∈ zs.take k, (Lit.int .i64 n).wf = true := by
    intro n hn
    have hm := List.mem_of_mem_take hn
    rcases h with ⟨_, _, _, h4⟩ | ⟨x, _, _, _, _, _, hw⟩
    · subst h4; cases hm
    · exact hw _ hm
  generalize zs.take k = l at H
  intro i hi
  have e : l.getD i 0 = l[i] := by simp [hi]
  rw [e]
  exact H _ (List.getElem_mem hi)

set_option maxRecDepth 100000 in
set_option maxHeartbeats 8000000 in
theorem TsoAtoms_walk (a a' q : Option Addr) (n c n' c' l d : Nat) (ws ts : List Int) (D : Int) (bs : List (List (Int × Int))) (th x y z : Int) (w : World) (S1 : Sl w a (min n 170) ws) (S2 : Sl w a' (min n' 170) ts) (h1 : n ≤ c) (h2 : n' ≤ c') (h3 : c ≤ 9223372036854775807) (h4 : c' ≤ 9223372036854775807) (hld : l ≤ d) (hd : d ≤ 9223372036854775807) (S : Bl w q l bs)
    (hx : (Lit.int .i64 x).wf = true) (hws : ∀ i, i < ws.length → (Lit.int .i64 (ws.getD i 0)).wf = true) :
    Calls Try.prog 3 #[.slice a n c, .slice a' n' c', .int .i64 D, .slice q l d, .int .i64 th, .int .i64 x, .int .i64 y, .int .i64 z] w (BoolPost true w) := by
  have HX := Lib.hid hx
  have HR := Lib.hid (loadZ_range (ts := ts) (x := x) hws)
  clear hx hws
  go_enter Try.func3, Try.ntmps3
  go_wp2_with fail
  refine (machine_any a a' q n c n' c' l d D bs _ h1 h2 h3 h4 hld hd S).mono ?_
  rintro e w1 ⟨qt, dt, rfl, B, hb1⟩
  have hN : min n 170 ≤ 170 := by omega
  have hN' : min n' 170 ≤ 170 := by omega
  have hL : min l 10 ≤ 10 := by omega
  generalize min n 170 = nt at S1 hN ⊢
  generalize min n' 170 = mt at S2 hN' ⊢
  generalize min l 10 = lt at B hL ⊢
  generalize cutB bs = cs at B ⊢
  obtain ⟨at', hat⟩ : ∃ u, u = a := ⟨_, rfl⟩
  obtain ⟨bt, hbt⟩ : ∃ u, u = a' := ⟨_, rfl⟩
  obtain ⟨ct, hct⟩ : ∃ u, u = c := ⟨_, rfl⟩
  obtain ⟨et, het⟩ : ∃ u, u = c' := ⟨_, rfl⟩
  subst hat hbt hct het
  have HW1 := Lib.hid S1.1
  have HW2 := Lib.hid S2.1
  have HW3 := Lib.hid B.1
  have bA := hb1.alloc hb1.size (Obj.cells #[.slice at' nt ct, .slice bt mt et, .int .i64 D, .slice qt lt dt] 27)
  have S1t := slA (Obj.cells #[.slice at' nt ct, .slice bt mt et, .int .i64 D, .slice qt lt dt] 27) (slB hb1 S1)
  have S2t := slA (Obj.cells #[.slice at' nt ct, .slice bt mt et, .int .i64 D, .slice qt lt dt] 27) (slB hb1 S2)
  have S3t := blA (Obj.cells #[.slice at' nt ct, .slice bt mt et, .int .i64 D, .slice qt lt dt] 27) B
  have Vt := var4_new (w := w1) (x := .slice at' nt ct) (y := .slice bt mt et) (z := .int .i64 D) (u := .slice qt lt dt) (t := 27) w1.heap.size rfl
  have HB1 := Lib.hid bA
  obtain ⟨E1, hE1⟩ : ∃ z, lockTE ws ts D cs th 2 x = z := ⟨_, rfl⟩
  have HE1 := Lib.hid hE1
  clear hb1 S1 S2 B S h1 h2 h3 h4 hld hd hE1 bA
  go_wp2_with fail
  have h0 := tsoLocked_any at' bt qt nt ct mt et lt dt ws ts D cs th 2 x y 0 _ S1t S2t S3t HX.out
  with_reducible refine h0.mono ?_
  clear h0
  rw [HE1.out]
  rintro e vn ⟨an, nn, cn, bn, mn, en, qn, ln, dn, rfl, s1, s2, s3, hbn⟩
  by_cases he : E1 = 0
  · subst he
    rw [okL_pos rfl] at s1 s2 s3
    rw [okZ_pos rfl, okZ_pos rfl]
    obtain ⟨⟨g1, g2, g3⟩, ⟨g4, g5, g6, g7⟩, g8, g9⟩ := lock_all HE1.out y z HR.out
    rw [IntWalk.i64_left] at g2 g3
    obtain ⟨lv, hlv⟩ : ∃ u, loadZ ws ts x = u := ⟨_, rfl⟩
    obtain ⟨ws1, hws1⟩ : ∃ u, lockTW ws ts 2 x y 0 = u := ⟨_, rfl⟩
    obtain ⟨ws2, hws2⟩ : ∃ u, lockTW ws ts 1 x z 0 = u := ⟨_, rfl⟩
    obtain ⟨ws3, hws3⟩ : ∃ u, lockTW ws ts 0 x y z = u := ⟨_, rfl⟩
    rw [hws1, hlv] at g2
    rw [hws1] at g1 g3 s1
    rw [hws2] at g5 g6
    rw [hws2, hlv] at g7
    rw [hws3, hlv, hws2] at g9
    rw [hlv]
    have G1 := Lib.hid g1
    have G2 := Lib.hid g2
    have G3 := Lib.hid g3
    have G4 := Lib.hid g4
    have G5 := Lib.hid g5
    have G6 := Lib.hid g6
    have G7 := Lib.hid g7
    have G8 := Lib.hid g8
    have G9 := Lib.hid g9
    have HLV := Lib.hid hlv
    have HWS2 := Lib.hid hws2
    have HWS3 := Lib.hid hws3
    have KL2 : Hid (ws2.length = nt) := by show ws2.length = nt; rw [← hws2, lockTW, List.length_set]; exact HW1.out
    have KL3 : Hid (ws3.length = nt) := by show ws3.length = nt; rw [← hws3, lockTW, List.length_set]; exact HW1.out
    clear g1 g2 g3 g4 g5 g6 g7 g8 g9 hlv hws1 hws2 hws3 HR
    have bA := hbn.alloc hbn.size (Obj.cells #[.slice an nn cn, .slice bn mn en, .int .i64 D, .slice qn ln dn] 27)
    have S1n := slA (Obj.cells #[.slice an nn cn, .slice bn mn en, .int .i64 D, .slice qn ln dn] 27) s1
    have S2n := slA (Obj.cells #[.slice an nn cn, .slice bn mn en, .int .i64 D, .slice qn ln dn] 27) s2
    have S3n := blA (Obj.cells #[.slice an nn cn, .slice bn mn en, .int .i64 D, .slice qn ln dn] 27) s3
    have Vn := var4_new (w := vn) (x := .slice an nn cn) (y := .slice bn mn en) (z := .int .i64 D) (u := .slice qn ln dn) (t := 27) vn.heap.size rfl
    replace S1t := slB bA S1t
    replace S2t := slB bA S2t
    replace S3t := blB bA S3t
    replace Vt := var4_B bA Vt
    have HBn := Lib.hid (below_from HB1.out bA)
    clear bA s1 s2 s3 hbn
    obtain ⟨⟨n0, n1, n2, n3⟩, -⟩ := id Vn
    go_wp2_with fail
    have h0 := tsoLocked_any an bn qn nn cn mn en ln dn ws1 ts D cs th 2 x (wrap64 (-y)) 0 _ S1n S2n S3n HX.out
    with_reducible refine h0.mono ?_
    clear h0
    rw [G1.out, G2.out, G3.out, okL_pos rfl, okL_pos rfl, okL_pos rfl, okZ_pos rfl, okZ_pos rfl]
    rintro e vb ⟨ab, nb, cb, bb, mb, eb, qb, lb, db, rfl, s1, s2, s3, hbb⟩
    have bA := hbb.alloc hbb.size (Obj.cells #[.slice ab nb cb, .slice bb mb eb, .int .i64 D, .slice qb lb db] 27)
    have S1b := slA (Obj.cells #[.slice ab nb cb, .slice bb mb eb, .int .i64 D, .slice qb lb db] 27) s1
    have S2b := slA (Obj.cells #[.slice ab nb cb, .slice bb mb eb, .int .i64 D, .slice qb lb db] 27) s2
    have S3b := blA (Obj.cells #[.slice ab nb cb, .slice bb mb eb, .int .i64 D, .slice qb lb db] 27) s3
    have Vb := var4_new (w := vb) (x := .slice ab nb cb) (y := .slice bb mb eb) (z := .int .i64 D) (u := .slice qb lb db) (t := 27) vb.heap.size rfl
    replace S1t := slB bA S1t
    replace S2t := slB bA S2t
    replace S3t := blB bA S3t
    replace Vt := var4_B bA Vt
    replace S1n := slB bA S1n
    replace S2n := slB bA S2n
    replace S3n := blB bA S3n
    replace Vn := var4_B bA Vn
    have HBb := Lib.hid (below_from HBn.out bA)
    clear bA s1 s2 s3 hbb
    clear n0 n1 n2 n3
    clear S1n S2n S3n Vn
    obtain ⟨⟨t0, t1, t2, t3⟩, -⟩ := id Vt
    go_wp2_with fail
    have h0 := tsoLocked_any at' bt qt nt ct mt et lt dt ws ts D cs th 1 x z 0 _ S1t S2t S3t HX.out
    with_reducible refine h0.mono ?_
    clear h0
    rw [G4.out, HWS2.out, HLV.out, okL_pos rfl, okL_pos rfl, okL_pos rfl, okZ_pos rfl, okZ_pos rfl]
    rintro e vu ⟨au, nu, cu, bu, mu, eu, qu, lu, du, rfl, s1, s2, s3, hbu⟩
    have bA := hbu.alloc hbu.size (Obj.cells #[.slice au nu cu, .slice bu mu eu, .int .i64 D, .slice qu lu du] 27)
    have S1u := slA (Obj.cells #[.slice au nu cu, .slice bu mu eu, .int .i64 D, .slice qu lu du] 27) s1
    have S2u := slA (Obj.cells #[.slice au nu cu, .slice bu mu eu, .int .i64 D, .slice qu lu du] 27) s2
    have S3u := blA (Obj.cells #[.slice au nu cu, .slice bu mu eu, .int .i64 D, .slice qu lu du] 27) s3
    have Vu := var4_new (w := vu) (x := .slice au nu cu) (y := .slice bu mu eu) (z := .int .i64 D) (u := .slice qu lu du) (t := 27) vu.heap.size rfl
    replace S1t := slB bA S1t
    replace S2t := slB bA S2t
    replace S3t := blB bA S3t
    replace Vt := var4_B bA Vt
    replace S1b := slB bA S1b
    replace S2b := slB bA S2b
    replace S3b := blB bA S3b
    replace Vb := var4_B bA Vb
    have HBu := Lib.hid (below_from HBb.out bA)
    clear bA s1 s2 s3 hbu
    clear t0 t1 t2 t3
    obtain ⟨⟨u0, u1, u2, u3⟩, -⟩ := id Vu
    go_wp2_with fail
    have h0 := tsoLocked_any au bu qu nu cu mu eu lu du ws2 ts D cs th 1 x lv 0 _ S1u S2u S3u HX.out
    with_reducible refine h0.mono ?_
    clear h0
    rw [G5.out, G6.out, G7.out, okL_pos rfl, okL_pos rfl, okL_pos rfl, okZ_pos rfl, okZ_pos rfl]
    rintro e vg ⟨ag, ng, cg, bg, mg, eg, qg, lg, dg, rfl, s1, s2, s3, hbg⟩
    have bA := hbg.alloc hbg.size (Obj.cells #[.slice ag ng cg, .slice bg mg eg, .int .i64 D, .slice qg lg dg] 27)
    have S1g := slA (Obj.cells #[.slice ag ng cg, .slice bg mg eg, .int .i64 D, .slice qg lg dg] 27) s1
    have S2g := slA (Obj.cells #[.slice ag ng cg, .slice bg mg eg, .int .i64 D, .slice qg lg dg] 27) s2
    have S3g := blA (Obj.cells #[.slice ag ng cg, .slice bg mg eg, .int .i64 D, .slice qg lg dg] 27) s3
    have Vg := var4_new (w := vg) (x := .slice ag ng cg) (y := .slice bg mg eg) (z := .int .i64 D) (u := .slice qg lg dg) (t := 27) vg.heap.size rfl
    replace S1t := slB bA S1t
    replace S2t := slB bA S2t
    replace S3t := blB bA S3t
    replace Vt := var4_B bA Vt
    replace S1b := slB bA S1b
    replace S2b := slB bA S2b
    replace S3b := blB bA S3b
    replace Vb := var4_B bA Vb
    replace S1u := slB bA S1u
    replace S2u := slB bA S2u
    replace S3u := blB bA S3u
    replace Vu := var4_B bA Vu
    have HBg := Lib.hid (below_from HBu.out bA)
    clear bA s1 s2 s3 hbg
    clear u0 u1 u2 u3
    obtain ⟨⟨t0, t1, t2, t3⟩, -⟩ := id Vt
    go_wp2_with fail
    have h0 := tsoLocked_any at' bt qt nt ct mt et lt dt ws ts D cs th 0 x y z _ S1t S2t S3t HX.out
    with_reducible refine h0.mono ?_
    clear h0
    rw [G8.out, HWS3.out, HLV.out, okL_pos rfl, okL_pos rfl, okL_pos rfl, okZ_pos rfl, okZ_pos rfl]
    rintro e vc ⟨ac, nc, cc, bc, mc, ec, qc, lc, dc, rfl, s1, s2, s3, hbc⟩
    have bA := hbc.alloc hbc.size (Obj.cells #[.slice ac nc cc, .slice bc mc ec, .int .i64 D, .slice qc lc dc] 27)
    have S1c := slA (Obj.cells #[.slice ac nc cc, .slice bc mc ec, .int .i64 D, .slice qc lc dc] 27) s1
    have S2c := slA (Obj.cells #[.slice ac nc cc, .slice bc mc ec, .int .i64 D, .slice qc lc dc] 27) s2
    have S3c := blA (Obj.cells #[.slice ac nc cc, .slice bc mc ec, .int .i64 D, .slice qc lc dc] 27) s3
    have Vc := var4_new (w := vc) (x := .slice ac nc cc) (y := .slice bc mc ec) (z := .int .i64 D) (u := .slice qc lc dc) (t := 27) vc.heap.size rfl
    replace S1t := slB bA S1t
    replace S2t := slB bA S2t
    replace S3t := blB bA S3t
    replace Vt := var4_B bA Vt
    replace S1b := slB bA S1b
    replace S2b := slB bA S2b
    replace S3b := blB bA S3b
    replace Vb := var4_B bA Vb
    replace S1u := slB bA S1u
    replace S2u := slB bA S2u
    replace S3u := blB bA S3u
    replace Vu := var4_B bA Vu
    replace S1g := slB bA S1g
    replace S2g := slB bA S2g
    replace S3g := blB bA S3g
    replace Vg := var4_B bA Vg
    have HBc := Lib.hid (below_from HBg.out bA)
    clear bA s1 s2 s3 hbc
    clear t0 t1 t2 t3
    have q1 : (lv != lv) = false := by simp
    have q2 : (z != z) = false := by simp
    have q3 : (IntKind.i64.wrap (lv + y) != IntKind.i64.wrap (lv + y)) = false := by simp
    have q4 : (wrap64 (lv + y) != wrap64 (lv + y)) = false := by simp
    go_wp2_with fail
    refine (alive3_any _).mono ?_
    rintro e w9 ⟨rfl, hb9⟩
    replace S1t := slB hb9 S1t
    replace S2t := slB hb9 S2t
    replace S3t := blB hb9 S3t
    replace Vt := var4_B hb9 Vt
    replace S1b := slB hb9 S1b
    replace S2b := slB hb9 S2b
    replace S3b := blB hb9 S3b
    replace Vb := var4_B hb9 Vb
    replace S1u := slB hb9 S1u
    replace S2u := slB hb9 S2u
    replace S3u := blB hb9 S3u
    replace Vu := var4_B hb9 Vu
    replace S1g := slB hb9 S1g
    replace S2g := slB hb9 S2g
    replace S3g := blB hb9 S3g
    replace Vg := var4_B hb9 Vg
    replace S1c := slB hb9 S1c
    replace S2c := slB hb9 S2c
    replace S3c := blB hb9 S3c
    replace Vc := var4_B hb9 Vc
    have HB9 := Lib.hid (below_from HBc.out hb9)
    clear hb9 q1 q2 q3 q4
    have kn : nt ≤ 1000 := by omega
    have km : mt ≤ 1000 := by omega
    have kl : lt ≤ 1000 := by omega
    have knb : nb ≤ 1000 := by rw [← S1b.1, HW1.out]; exact kn
    have kmb : mb ≤ 1000 := by rw [← S2b.1, HW2.out]; exact km
    have klb : lb ≤ 1000 := by rw [← S3b.1, HW3.out]; exact kl
    have kng : ng ≤ 1000 := by rw [← S1g.1, HW1.out]; exact kn
    have kmg : mg ≤ 1000 := by rw [← S2g.1, HW2.out]; exact km
    have klg : lg ≤ 1000 := by rw [← S3g.1, HW3.out]; exact kl
    have knc : nc ≤ 1000 := by rw [← S1c.1, KL3.out]; exact kn
    have kmc : mc ≤ 1000 := by rw [← S2c.1, HW2.out]; exact km
    have klc : lc ≤ 1000 := by rw [← S3c.1, HW3.out]; exact kl
    have HK := Lib.hid (And.intro knb (And.intro kmb (And.intro klb (And.intro kng (And.intro kmg (And.intro klg (And.intro knc (And.intro kmc klc))))))))
    clear kn km kl knb kmb klb kng kmg klg knc kmc klc hN hN' hL
    by_cases hc : lv = y
    · have q : (lv == y) = true := by simpa using hc
      have e3 : ws3 = ws2 := G9.out.trans (if_pos hc)
      subst e3
      clear hc
      obtain ⟨⟨t0, t1, t2, t3⟩, -⟩ := id Vt
      obtain ⟨⟨u0, u1, u2, u3⟩, -⟩ := id Vu
      have u0' := cellA (Obj.cells #[.slice at' nt ct, .slice bt mt et, .int .i64 D, .slice qt lt dt] 27) u0
      have u1' := cellA (Obj.cells #[.slice at' nt ct, .slice bt mt et, .int .i64 D, .slice qt lt dt] 27) u1
      have u2' := cellA (Obj.cells #[.slice at' nt ct, .slice bt mt et, .int .i64 D, .slice qt lt dt] 27) u2
      have u3' := cellA (Obj.cells #[.slice at' nt ct, .slice bt mt et, .int .i64 D, .slice qt lt dt] 27) u3
      go_upto_region 14 with fail
      clear u0' u1' u2' u3'
      clear t0 t1 t2 t3 u0 u1 u2 u3
      have bA : Below w9.heap.size w9 (w9.alloc (Obj.cells #[.slice au nu cu, .slice bu mu eu, .int .i64 D, .slice qu lu du] 27)) := (Below.refl _ _).alloc (Nat.le_refl _) _
      replace S1t := slB bA S1t
      replace S2t := slB bA S2t
      replace S3t := blB bA S3t
      replace Vt := var4_B bA Vt
      replace S1b := slB bA S1b
      replace S2b := slB bA S2b
      replace S3b := blB bA S3b
      replace Vb := var4_B bA Vb
      replace S1u := slB bA S1u
      replace S2u := slB bA S2u
      replace S3u := blB bA S3u
      replace Vu := var4_B bA Vu
      replace S1g := slB bA S1g
      replace S2g := slB bA S2g
      replace S3g := blB bA S3g
      replace Vg := var4_B bA Vg
      replace S1c := slB bA S1c
      replace S2c := slB bA S2c
      replace S3c := blB bA S3c
      replace Vc := var4_B bA Vc
      have Vw := var4_new (w := w9) (x := .slice au nu cu) (y := .slice bu mu eu) (z := .int .i64 D) (u := .slice qu lu du) (t := 27) w9.heap.size rfl
      have S1w := S1u
      have S2w := S2u
      have S3w := S3u
      have HBA := Lib.hid (below_from HB9.out bA)
      clear bA
      obtain ⟨⟨b0, b1, b2, b3⟩, -⟩ := id Vb
      obtain ⟨⟨t0, t1, t2, t3⟩, -⟩ := id Vt
      go_wp2_with fail
      have h0 := refSameT_any ab bb qb at' bt qt nb cb mb eb lb db nt ct mt et lt dt _ _ D _ _ S1b S2b S3b S1t S2t S3t HK.out.1 HK.out.2.1 HK.out.2.2.1
      with_reducible refine h0.mono ?_
      clear h0
      rintro e wa ⟨rfl, hwa⟩
      replace S1t := slB hwa S1t
      replace S2t := slB hwa S2t
      replace S3t := blB hwa S3t
      replace Vt := var4_B hwa Vt
      replace S1u := slB hwa S1u
      replace S2u := slB hwa S2u
      replace S3u := blB hwa S3u
      replace Vu := var4_B hwa Vu
      replace S1g := slB hwa S1g
      replace S2g := slB hwa S2g
      replace S3g := blB hwa S3g
      replace Vg := var4_B hwa Vg
      replace S1c := slB hwa S1c
      replace S2c := slB hwa S2c
      replace S3c := blB hwa S3c
      replace Vc := var4_B hwa Vc
      replace S1w := slB hwa S1w
      replace S2w := slB hwa S2w
      replace S3w := blB hwa S3w
      replace Vw := var4_B hwa Vw
      have HBwa := Lib.hid (below_from HBA.out hwa)
      clear hwa
      clear b0 b1 b2 b3 t0 t1 t2 t3
      obtain ⟨⟨g0, g1, g2, g3⟩, -⟩ := id Vg
      obtain ⟨⟨t0, t1, t2, t3⟩, -⟩ := id Vt
      go_wp2_with fail
      have h0 := refSameT_any ag bg qg at' bt qt ng cg mg eg lg dg nt ct mt et lt dt _ _ D _ _ S1g S2g S3g S1t S2t S3t HK.out.2.2.2.1 HK.out.2.2.2.2.1 HK.out.2.2.2.2.2.1
      with_reducible refine h0.mono ?_
      clear h0
      rintro e wb ⟨rfl, hwb⟩
      replace S1t := slB hwb S1t
      replace S2t := slB hwb S2t
      replace S3t := blB hwb S3t
      replace Vt := var4_B hwb Vt
      replace S1u := slB hwb S1u
      replace S2u := slB hwb S2u
      replace S3u := blB hwb S3u
      replace Vu := var4_B hwb Vu
      replace S1c := slB hwb S1c
      replace S2c := slB hwb S2c
      replace S3c := blB hwb S3c
      replace Vc := var4_B hwb Vc
      replace S1w := slB hwb S1w
      replace S2w := slB hwb S2w
      replace S3w := blB hwb S3w
      replace Vw := var4_B hwb Vw
      have HBwb := Lib.hid (below_from HBwa.out hwb)
      clear hwb
      clear g0 g1 g2 g3 t0 t1 t2 t3
      obtain ⟨⟨c0, c1, c2, c3⟩, -⟩ := id Vc
      obtain ⟨⟨w0, w1, w2, w3⟩, -⟩ := id Vw
      go_wp2_with fail
      have h0 := refSameT_any ac bc qc au bu qu nc cc mc ec lc dc nu cu mu eu lu du _ _ D _ _ S1c S2c S3c S1w S2w S3w HK.out.2.2.2.2.2.2.1 HK.out.2.2.2.2.2.2.2.1 HK.out.2.2.2.2.2.2.2.2
      with_reducible refine h0.mono ?_
      clear h0
      rintro e wd ⟨rfl, hwd⟩
      have HBd := Lib.hid (below_from HBwb.out hwd)
      clear hwd
      go_wp2
      go_ret
      exact boolPost_mk rfl HBd.out
    · have q : (lv == y) = false := by simpa using hc
      have e3 : ws3 = ws := G9.out.trans (if_neg hc)
      subst e3
      clear hc
      obtain ⟨⟨t0, t1, t2, t3⟩, -⟩ := id Vt
      obtain ⟨⟨u0, u1, u2, u3⟩, -⟩ := id Vu
      go_upto_region 14 with fail
      clear t0 t1 t2 t3 u0 u1 u2 u3
      have bA : Below w9.heap.size w9 (w9.alloc (Obj.cells #[.slice at' nt ct, .slice bt mt et, .int .i64 D, .slice qt lt dt] 27)) := (Below.refl _ _).alloc (Nat.le_refl _) _
      replace S1t := slB bA S1t
      replace S2t := slB bA S2t
      replace S3t := blB bA S3t
      replace Vt := var4_B bA Vt
      replace S1b := slB bA S1b
      replace S2b := slB bA S2b
      replace S3b := blB bA S3b
      replace Vb := var4_B bA Vb
      replace S1u := slB bA S1u
      replace S2u := slB bA S2u
      replace S3u := blB bA S3u
      replace Vu := var4_B bA Vu
      replace S1g := slB bA S1g
      replace S2g := slB bA S2g
      replace S3g := blB bA S3g
      replace Vg := var4_B bA Vg
      replace S1c := slB bA S1c
      replace S2c := slB bA S2c
      replace S3c := blB bA S3c
      replace Vc := var4_B bA Vc
      have Vw := var4_new (w := w9) (x := .slice at' nt ct) (y := .slice bt mt et) (z := .int .i64 D) (u := .slice qt lt dt) (t := 27) w9.heap.size rfl
      have S1w := S1t
      have S2w := S2t
      have S3w := S3t
      have HBA := Lib.hid (below_from HB9.out bA)
      clear bA
      obtain ⟨⟨b0, b1, b2, b3⟩, -⟩ := id Vb
      obtain ⟨⟨t0, t1, t2, t3⟩, -⟩ := id Vt
      go_wp2_with fail
      have h0 := refSameT_any ab bb qb at' bt qt nb cb mb eb lb db nt ct mt et lt dt _ _ D _ _ S1b S2b S3b S1t S2t S3t HK.out.1 HK.out.2.1 HK.out.2.2.1
      with_reducible refine h0.mono ?_
      clear h0
      rintro e wa ⟨rfl, hwa⟩
      replace S1t := slB hwa S1t
      replace S2t := slB hwa S2t
      replace S3t := blB hwa S3t
      replace Vt := var4_B hwa Vt
      replace S1u := slB hwa S1u
      replace S2u := slB hwa S2u
      replace S3u := blB hwa S3u
      replace Vu := var4_B hwa Vu
      replace S1g := slB hwa S1g
      replace S2g := slB hwa S2g
      replace S3g := blB hwa S3g
      replace Vg := var4_B hwa Vg
      replace S1c := slB hwa S1c
      replace S2c := slB hwa S2c
      replace S3c := blB hwa S3c
      replace Vc := var4_B hwa Vc
      replace S1w := slB hwa S1w
      replace S2w := slB hwa S2w
      replace S3w := blB hwa S3w
      replace Vw := var4_B hwa Vw
      have HBwa := Lib.hid (below_from HBA.out hwa)
      clear hwa
      clear b0 b1 b2 b3 t0 t1 t2 t3
      obtain ⟨⟨g0, g1, g2, g3⟩, -⟩ := id Vg
      obtain ⟨⟨t0, t1, t2, t3⟩, -⟩ := id Vt
      go_wp2_with fail
      have h0 := refSameT_any ag bg qg at' bt qt ng cg mg eg lg dg nt ct mt et lt dt _ _ D _ _ S1g S2g S3g S1t S2t S3t HK.out.2.2.2.1 HK.out.2.2.2.2.1 HK.out.2.2.2.2.2.1
      with_reducible refine h0.mono ?_
      clear h0
      rintro e wb ⟨rfl, hwb⟩
      replace S1t := slB hwb S1t
      replace S2t := slB hwb S2t
      replace S3t := blB hwb S3t
      replace Vt := var4_B hwb Vt
      replace S1u := slB hwb S1u
      replace S2u := slB hwb S2u
      replace S3u := blB hwb S3u
      replace Vu := var4_B hwb Vu
      replace S1c := slB hwb S1c
      replace S2c := slB hwb S2c
      replace S3c := blB hwb S3c
      replace Vc := var4_B hwb Vc
      replace S1w := slB hwb S1w
      replace S2w := slB hwb S2w
      replace S3w := blB hwb S3w
      replace Vw := var4_B hwb Vw
      have HBwb := Lib.hid (below_from HBwa.out hwb)
      clear hwb
      clear g0 g1 g2 g3 t0 t1 t2 t3
      obtain ⟨⟨c0, c1, c2, c3⟩, -⟩ := id Vc
      obtain ⟨⟨w0, w1, w2, w3⟩, -⟩ := id Vw
      go_wp2_with fail
      have h0 := refSameT_any ac bc qc at' bt qt nc cc mc ec lc dc nt ct mt et lt dt _ _ D _ _ S1c S2c S3c S1w S2w S3w HK.out.2.2.2.2.2.2.1 HK.out.2.2.2.2.2.2.2.1 HK.out.2.2.2.2.2.2.2.2
      with_reducible refine h0.mono ?_
      clear h0
      rintro e wd ⟨rfl, hwd⟩
      have HBd := Lib.hid (below_from HBwb.out hwd)
      clear hwd
      go_wp2
      go_ret
      exact boolPost_mk rfl HBd.out
  · have hl2 : ln = 0 := by rw [okL_neg he] at s3; exact s3.1.symm
    subst hl2
    rw [okZ_neg he, okZ_neg he]
    have q1 : (E1 != 0) = true := by simpa using he
    have Y := var4_new (w := vn) (x := .slice an nn cn) (y := .slice bn mn en) (z := .int .i64 0) (u := .slice qn 0 dn) (t := 27) vn.heap.size rfl
    have HB2 := Lib.hid (below_from HB1.out (hbn.alloc hbn.size (Obj.cells #[.slice an nn cn, .slice bn mn en, .int .i64 0, .slice qn 0 dn] 27)))
    obtain ⟨⟨y0, y1, y2, y3⟩, -⟩ := Y
    clear he hbn s1 s2 s3 S1t S2t S3t Vt HR
    go_wp2_with fail
    refine (alive3_any _).mono ?_
    rintro e w3 ⟨rfl, hb3⟩
    replace y3 := cellB hb3 y3
    have HB3 := Lib.hid (below_from HB2.out hb3)
    clear hb3
    go_wp2
    go_ret
    exact boolPost_mk rfl HB3.out
end Go.Proofs.Yteojpdhmhjoeiaa
