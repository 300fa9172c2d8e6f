/- The contract of package memory's Mark. -/
import Derived.Test.YtmkpjmcekoenbaaMemC
namespace Go.Proofs.Ytmkpjmcekoenbaa
open Go.ChangeShapes Go.WideShapes Go.ChangeAt Go.RowKit

/-- of the blocks that there were, only q may have been written -/
structure Only (q : Nat) (w w' : World) : Prop where
  os : w'.os = w.os
  tape : w'.tape = w.tape
  output : w'.output = w.output
  size : w.heap.size ≤ w'.heap.size
  block : ∀ k, k < w.heap.size → k ≠ q → w'.heap[k]? = w.heap[k]?
theorem Only.refl (q : Nat) (w : World) : Only q w w := ⟨rfl, rfl, rfl, Nat.le_refl _, fun _ _ _ => rfl⟩
theorem Only.below {q : Nat} {w a b : World} (h : Only q w a) (h' : Below a.heap.size a b) : Only q w b :=
  ⟨h'.os.trans h.os, h'.tape.trans h.tape, h'.output.trans h.output, Nat.le_trans h.size h'.size, fun k hk hq => by rw [h'.block k (by have := h.size; omega), h.block k hk hq]⟩
theorem Only.set {q : Nat} {w a : World} (h : Only q w a) (p : Addr) (hp : p.block = q) (v : Value) : Only q w (a.setCell p v) :=
  ⟨h.os, h.tape, h.output, by simpa using h.size, fun k hk hq => by rw [Below.heap_setCell _ _ _ _ (by omega), h.block k hk hq]⟩
theorem Only.cell {q : Nat} {w a : World} {p : Addr} {v : Value} (h : Only q w a) (hp : p.block ≠ q) (hc : w.cell? p = some v) : a.cell? p = some v := by
  rw [World.cell?_of_block (w := w) (h.block _ (cell_lt hc) hp)]; exact hc
theorem Only.to_below {q : Nat} {w0 w a : World} (h : Only q w a) (hb : Below w0.heap.size w0 w) (hq : w0.heap.size ≤ q) : Below w0.heap.size w0 a :=
  hb.trans ⟨h.os, h.tape, h.output, h.size, fun k hk => h.block k (by have := hb.size; omega) (by omega)⟩

def MarkRel (ws ts : List Int) (i : Nat) (tag : Int) (p q : Nat) (W : World) (j : Nat) (wr : World) : Prop :=
  scanE (refE tag) ts i j = 0 ∧ Only q W wr ∧ wr.heap[p]? = some (.cells (Ir ws) 3) ∧ wr.heap[q]? = some (.cells (Ir (setR ts i tag j)) 3)

theorem Only.frozen {q : Nat} {w a : World} {p : Addr} {v : Value} (h : Only q w a) (hp : p.block ≠ q) (hc : w.cell? p = some v) : a.frozen? p = w.frozen? p :=
  World.frozen?_of_block (w := w) (h.block _ (cell_lt hc) hp)
theorem frozenA {w : World} {a : Addr} {v : Value} (o : Obj) (h : w.cell? a = some v) : (w.alloc o).frozen? a = w.frozen? a :=
  World.frozen?_of_block (w := w) (heap_old w o _ (cell_lt h))
theorem rel_go {ws ts : List Int} {i : Nat} {tag : Int} {p q : Nat} {W wr w' : World} {j : Nat} (h : MarkRel ws ts i tag p q W j wr) (hpq : p ≠ q) (hb : Below wr.heap.size wr w') (he : refE tag (ts.getD (i + j) 0) = 0) :
    MarkRel ws ts i tag p q W (j + 1) (w'.setCell ⟨q, i + j, none⟩ (.int .i64 tag)) := by
  obtain ⟨h1, h2, h3, h4⟩ := h
  refine ⟨by simp only [scanE]; rw [if_pos h1, he], (h2.below hb).set _ rfl _, ?_, ?_⟩
  · rw [Below.heap_setCell _ _ _ _ hpq, hb.block _ (heap_lt h3)]; exact h3
  · exact set_row (by rw [hb.block _ (heap_lt h4)]; exact h4)
theorem mark_stop {ws ts : List Int} {i k j : Nat} {tag : Int} (hm : mayB ws ts = true) (hw : withinB ws.length i k = true) (ht : tag = 1 ∨ tag = 2) (hj : j < k) (h : scanE (refE tag) ts i j = 0) (he : refE tag (ts.getD (i + j) 0) ≠ 0) :
    markE ws ts i k tag = refE tag (ts.getD (i + j) 0) ∧ markW ws ts i k tag = [] ∧ markT ws ts i k tag = [] := by
  have e : markE ws ts i k tag = refE tag (ts.getD (i + j) 0) := by
    rw [markE, if_pos ⟨hm, ht⟩, if_pos hw]
    exact scanE_first h rfl he (by simpa using hj)
  exact ⟨e, by rw [markW, if_neg (by rw [e]; exact he)], by rw [markT, if_neg (by rw [e]; exact he)]⟩
theorem mark_done {ws ts : List Int} {i k : Nat} {tag : Int} (hm : mayB ws ts = true) (hw : withinB ws.length i k = true) (ht : tag = 1 ∨ tag = 2) (h : scanE (refE tag) ts i k = 0) :
    markE ws ts i k tag = 0 ∧ markW ws ts i k tag = ws ∧ markT ws ts i k tag = setR ts i tag k := by
  have e : markE ws ts i k tag = 0 := by
    rw [markE, if_pos ⟨hm, ht⟩, if_pos hw]; simpa using h
  exact ⟨e, by rw [markW, if_pos e], by rw [markT, if_pos e]; simp⟩

theorem refE_call (tag t : Int) (w : World) (f : Nat) (hf : (tag = 1 ∧ f = 30) ∨ (tag = 2 ∧ f = 29)) (h0 : 0 ≤ t) (h2 : t ≤ 2) :
    Calls Try.prog f #[.int .i64 t] w fun e w' => e = .returned (.int .i64 (refE tag t)) ∧ Below w.heap.size w w' := by
  rcases hf with ⟨rfl, rfl⟩ | ⟨rfl, rfl⟩
  · exact whyNotTaken_any t w h0 h2
  · exact whyNotUsed_any t w h0 h2

set_option maxHeartbeats 4000000 in
theorem Mark_loop (b1 o1 b2 o2 n c c' : Nat) (ws ts : List Int) (i k : Nat) (tag : Int) (f : Nat) (hf : (tag = 1 ∧ f = 30) ∨ (tag = 2 ∧ f = 29)) (w : World)
    (S1 : Sl w (some ⟨b1, o1, none⟩) n ws) (S2 : Sl w (some ⟨b2, o2, none⟩) n ts) (hn : ws.length = n) (hn' : ts.length = n) (R1 : Row w b1 o1 ws) (R2 : Row w b2 o2 ts) (hm : mayB ws ts = true) (hk : 1 ≤ k) (hik : i + k ≤ n) (z4 : n ≤ 160) :
    Calls Try.prog 21 #[.agg #[.slice (some ⟨b1, o1, none⟩) n c, .slice (some ⟨b2, o2, none⟩) n c'], .int .i64 i, .int .i64 k, .int .i64 tag] w (MemRet (markW ws ts i k tag) (markT ws ts i k tag) (markE ws ts i k tag) w) := by
  have Hn := Lib.hid hn
  have Hn' := Lib.hid hn'
  have Hm := Lib.hid hm
  have HT := Lib.hid (fun j (hj : j < ts.length) => mayB_tag hm j (by rw [Hn.out, ← Hn'.out]; exact hj))
  have HI : withinB n i k = true := by simp [withinB]; omega
  have HI' := Lib.hid HI
  clear hn hn' hm HI
  have HG : Hid (tag = 1 ∨ tag = 2) := hf.imp (fun h => h.1) (fun h => h.1)
  have b0 : (tag = 1 ∧ (tag != 1) = false ∧ (tag == 1) = true ∧ f = 30) ∨ (tag = 2 ∧ (tag != 1) = true ∧ (tag != 2) = false ∧ (tag == 1) = false ∧ f = 29) := by
    rcases hf with ⟨rfl, rfl⟩ | ⟨rfl, rfl⟩ <;> simp
  clear hf
  rcases b0 with ⟨h1, b1', b2', rfl⟩ | ⟨h1, b1', b2', b3', rfl⟩
  all_goals
    have HF := Lib.hid h1
    clear h1
    go_enter Try.func21, Try.ntmps21
    go_wp2_with fail
    refine (Right_any _ _ n c n c' ws ts _ (slA _ (slA _ S1)) (slA _ (slA _ S2))).mono ?_
    rintro e w1 ⟨rfl, hb⟩
    have hb1 : Below w.heap.size w w1 := below_from (by go_grown) hb
    obtain ⟨hc, hfr⟩ := bcell hb
    have hs1 : w.heap.size + 1 < w1.heap.size := by have := hb.size; simp at this; omega
    rw [Hm.out]
    go_wp2_with fail
    refine (within_any _ _ n c n c' i k _ z4 (by omega) (by omega)).mono ?_
    rintro e w2 ⟨rfl, hb'⟩
    have hb2 : Below w.heap.size w w2 := hb1.trans (hb'.mono (by omega))
    obtain ⟨hc', hfr'⟩ := bcell hb'
    have hs2 : w.heap.size + 1 < w2.heap.size := by have := hb'.size; omega
    have hs0 : w.heap.size < w1.heap.size := by omega
    rw [HI'.out]
    go_wp2_with fail
    refine (copied_good b1 o1 b2 o2 n c c' ws ts _ Hn.out Hn'.out (rowB hb2 R1) (rowB hb2 R2) z4).mono ?_
    rintro e w3 ⟨p, q, rfl, hpq, hp, hq, hhp, hhq, hb''⟩
    have hb3 : Below w.heap.size w w3 := hb2.trans (hb''.mono hb2.size)
    have hs3 : w.heap.size + 1 < w3.heap.size := by have := hb''.size; omega
    have r0 : w3.cell? ⟨w.heap.size + 1, 0, none⟩ = some (.slice none 0 0) := by rw [hb''.cell (p := ⟨w.heap.size + 1, 0, none⟩) (by simp; omega), hc' _ _ (by omega), hc _ _ (by simp)]; simp
    have r1 : w3.cell? ⟨w.heap.size + 1, 1, none⟩ = some (.slice none 0 0) := by rw [hb''.cell (p := ⟨w.heap.size + 1, 1, none⟩) (by simp; omega), hc' _ _ (by omega), hc _ _ (by simp)]; simp
    have r2 : w3.cell? ⟨w.heap.size, 1, none⟩ = some (.slice (some ⟨b2, o2, none⟩) n c') := by rw [hb''.cell (p := ⟨w.heap.size, 1, none⟩) (by simp; omega), hc' _ _ (by omega), hc _ _ (by simp; omega)]; simp
    have r3 : w3.frozen? ⟨w.heap.size + 1, 0, none⟩ = false := by rw [hb''.frozen (p := ⟨w.heap.size + 1, 0, none⟩) (by simp; omega), hfr' _ _ (by omega), hfr _ _ (by simp)]; exact free_row (heap_new _ _ _ (by simp))
    have r4 : w3.frozen? ⟨w.heap.size + 1, 1, none⟩ = false := by rw [hb''.frozen (p := ⟨w.heap.size + 1, 1, none⟩) (by simp; omega), hfr' _ _ (by omega), hfr _ _ (by simp)]; exact free_row (heap_new _ _ _ (by simp))
    have hp3 := heap_lt hhp
    have hq3 := heap_lt hhq
    have Hp := Lib.hid hhp
    have Hq := Lib.hid hhq
    have Rt := rowB hb3 R2
    clear hc hfr hc' hfr' hhp hhq
    have m0 := cellA (Obj.cells #[.slice (some ⟨p, 0, none⟩) n n, .slice (some ⟨q, 0, none⟩) n n] 24) r0
    have m1 := cellA (Obj.cells #[.slice (some ⟨p, 0, none⟩) n n, .slice (some ⟨q, 0, none⟩) n n] 24) r1
    have m2 := cellA (Obj.cells #[.slice (some ⟨p, 0, none⟩) n n, .slice (some ⟨q, 0, none⟩) n n] 24) r2
    have m3 : (w3.alloc (Obj.cells #[.slice (some ⟨p, 0, none⟩) n n, .slice (some ⟨q, 0, none⟩) n n] 24)).cell? ⟨w3.heap.size, 0, none⟩ = some (.slice (some ⟨p, 0, none⟩) n n) := by simp
    have m4 : (w3.alloc (Obj.cells #[.slice (some ⟨p, 0, none⟩) n n, .slice (some ⟨q, 0, none⟩) n n] 24)).cell? ⟨w3.heap.size, 1, none⟩ = some (.slice (some ⟨q, 0, none⟩) n n) := by simp
    have M0 := Lib.hid m0
    have M1 := Lib.hid m1
    have M2 := Lib.hid m2
    have M3 := Lib.hid m3
    have M4 := Lib.hid m4
    have MF0 := Lib.hid ((frozenA (Obj.cells #[.slice (some ⟨p, 0, none⟩) n n, .slice (some ⟨q, 0, none⟩) n n] 24) r0).trans r3)
    have MF1 := Lib.hid ((frozenA (Obj.cells #[.slice (some ⟨p, 0, none⟩) n n, .slice (some ⟨q, 0, none⟩) n n] 24) r1).trans r4)
    have MR := Lib.hid (rowA (Obj.cells #[.slice (some ⟨p, 0, none⟩) n n, .slice (some ⟨q, 0, none⟩) n n] 24) Rt)
    have MP := Lib.hid ((heap_old w3 (Obj.cells #[.slice (some ⟨p, 0, none⟩) n n, .slice (some ⟨q, 0, none⟩) n n] 24) p hp3).trans Hp.out)
    have MQ := Lib.hid ((heap_old w3 (Obj.cells #[.slice (some ⟨p, 0, none⟩) n n, .slice (some ⟨q, 0, none⟩) n n] 24) q hq3).trans Hq.out)
    have hb4 : Below w.heap.size w (w3.alloc (Obj.cells #[.slice (some ⟨p, 0, none⟩) n n, .slice (some ⟨q, 0, none⟩) n n] 24)) := hb3.alloc hb3.size _
    have hqw : w.heap.size + 1 < q := by have := hb'.size; omega
    have hpw : w.heap.size + 1 < p := by have := hb'.size; omega
    have hb2w : b2 < w.heap.size := cell_lt (R2 0 (by rw [Hn'.out]; omega))
    clear m0 m1 m2 m3 m4 r0 r1 r2 r3 r4 Rt hb'' hb3 hb' hb2 hb hb1 hs0 hs1 hs2
    go_wp2_with fail
    obtain ⟨W, hW⟩ : ∃ W, W = w3.alloc (Obj.cells #[.slice (some ⟨p, 0, none⟩) n n, .slice (some ⟨q, 0, none⟩) n n] 24) := ⟨_, rfl⟩
    have hWs : W.heap.size = w3.heap.size + 1 := by rw [hW]; simp
    rw [← hW] at M0 M1 M2 M3 M4 MF0 MF1 MR MP MQ hb4 ⊢
    clear hW
    go_loopw [12] (fun s wr => ∃ j : Nat, j ≤ k ∧ s = .int .i64 ((i + j : Nat) : Int) ∧ Hid (MarkRel ws ts i tag p q W j wr)) (fun s _ => i + k - (intOf s).toNat)
    case atStart => exact ⟨0, by omega, rfl, rfl, Only.refl _ _, MP.out, MQ.out⟩
    case round =>
      obtain ⟨j, hj, rfl, hr⟩ := hrel
      have ho := hr.out.2.1
      have n2 := ho.cell (by simp; omega) M2.out
      have n3 := ho.cell (by simp; omega) M3.out
      have n4 := ho.cell (by simp; omega) M4.out
      have n0 := ho.cell (by simp; omega) M0.out
      have n1 := ho.cell (by simp; omega) M1.out
      have nf0 := (ho.frozen (by simp; omega) M0.out).trans MF0.out
      have nf1 := (ho.frozen (by simp; omega) M1.out).trans MF1.out
      have hsz := ho.size
      have hbw := ho.to_below hb4 (by omega)
      clear ho
      by_cases hlt : j < k
      · have hij : i + j < n := by omega
        have g1 := hr.out.2.1.cell (by simp; omega) (MR.out (i + j) (by rw [Hn'.out]; exact hij))
        have HT1 := HT.out (i + j) (by rw [Hn'.out]; exact hij)
        have HGO := Lib.hid (fun w' hb => rel_go (w' := w') hr.out hpq hb)
        have HST := Lib.hid (mark_stop (k := k) Hm.out (by rw [Hn.out]; exact HI'.out) HG.out hlt hr.out.1)
        have nq := cell_row (k := i + j) hr.out.2.2.2 (by rw [setR_length, Hn'.out]; exact hij)
        have nfq := free_row (k := i + j) hr.out.2.2.2
        generalize ts.getD (i + j) 0 = tv at g1 HT1 HGO HST
        generalize (setR ts i tag j).getD (i + j) 0 = ov at nq
        obtain ⟨T0, T2⟩ := HT1
        go_wp2_with fail
        refine (refE_call tag tv _ _ (by first | exact .inl ⟨HF.out, rfl⟩ | exact .inr ⟨HF.out, rfl⟩) T0 T2).mono ?_
        rintro e w5 ⟨rfl, hb5⟩
        have n0' := cellB hb5 n0
        have n1' := cellB hb5 n1
        have n4' := cellB hb5 n4
        have n3' := cellB hb5 n3
        have nq' := cellB hb5 nq
        have nf0' := (hb5.frozen (cell_lt n0)).trans nf0
        have nf1' := (hb5.frozen (cell_lt n1)).trans nf1
        have nfq' := (hb5.frozen (cell_lt nq)).trans nfq
        have hsz5 := hb5.size
        have hbw5 := below_from hbw hb5
        have HB5 := Lib.hid hb5
        clear n0 n1 n2 n3 n4 nf0 nf1 nq nfq g1 hb5
        by_cases hz : refE tag tv = 0
        · have HZ := Lib.hid hz
          have HR := Lib.hid (HGO.out _ HB5.out hz)
          rw [hz]
          clear hz
          go_wp2
          go_roundw
          case rel => exact ⟨j + 1, by omega, by go_num, HR.out⟩
          case measure => simp [intOf]; omega
        · have HZ := Lib.hid hz
          have hz' : (refE tag tv != 0) = true := by simpa using hz
          obtain ⟨x1, x2, x3⟩ := HST.out hz
          obtain ⟨ev, hev⟩ : ∃ ev, refE tag tv = ev := ⟨_, rfl⟩
          have HX := Lib.hid hev
          rw [hev] at x1
          have X1 := Lib.hid x1
          have X2 := Lib.hid x2
          have X3 := Lib.hid x3
          rw [hev] at hz' ⊢
          clear hz hev x1 x2 x3
          go_wp2
          refine bp_cell_tmp ⟨w.heap.size + 1, 0, none⟩ rfl rfl rfl (load_mem _ _ _ _ (by go_cell_look) (by go_cell_look)) ?_
          rw [X1.out, X2.out, X3.out]
          exact memRet_nil (by go_grown)
      · obtain rfl : j = k := by omega
        have HDN := Lib.hid (mark_done Hm.out (by rw [Hn.out]; exact HI'.out) HG.out hr.out.1)
        have hP := Lib.hid hr.out.2.2.1
        have hQ := Lib.hid hr.out.2.2.2
        go_wp2
        refine bp_cell_tmp ⟨w.heap.size + 1, 0, none⟩ rfl rfl rfl (load_mem _ _ _ _ (by go_cell_look) (by go_cell_look)) ?_
        rw [HDN.out.1, HDN.out.2.1, HDN.out.2.2]
        refine memRet_rows (t := 3) (t' := 3) (fr := (0, 0)) (fr' := (0, 0)) Hn.out (by rw [setR_length, Hn'.out]) (by omega) (by omega) ?_ ?_ (by go_grown)
        · rw [Below.heap_setCell _ _ _ _ (by simp; omega), Below.heap_setCell _ _ _ _ (by simp; omega)]
          exact hP.out
        · rw [Below.heap_setCell _ _ _ _ (by simp; omega), Below.heap_setCell _ _ _ _ (by simp; omega)]
          exact hQ.out

set_option maxHeartbeats 4000000 in
theorem Mark_any (a a' : Option Addr) (n c n' c' : Nat) (ws ts : List Int) (i k tag : Int) (w : World) (S1 : Sl w a n ws) (S2 : Sl w a' n' ts) (hi : (Lit.int .i64 i).wf = true) :
    Calls Try.prog 21 #[.agg #[.slice a n c, .slice a' n' c'], .int .i64 i, .int .i64 k, .int .i64 tag] w (MemRet (markW ws ts i k tag) (markT ws ts i k tag) (markE ws ts i k tag) w) := by
  have hb0 : -9223372036854775808 ≤ i ∧ i ≤ 9223372036854775807 := by simpa [Lit.wf, IntKind.min, IntKind.max, IntKind.signed, IntKind.bits] using hi
  have HB := Lib.hid hb0
  clear hb0 hi
  by_cases hm : mayB ws ts = true
  · by_cases ht : tag = 1 ∨ tag = 2
    · obtain ⟨z0, z1, z2⟩ := mayB_size hm
      have hn := S1.1
      have hn' := S2.1
      obtain rfl : n' = n := by omega
      obtain ⟨-, b1, o1, rfl, R1⟩ := sl_some S1 (by omega)
      obtain ⟨-, b2, o2, rfl, R2⟩ := sl_some S2 (by omega)
      by_cases hw : withinB n' i k = true
      · simp only [withinB, decide_eq_true_eq] at hw
        obtain ⟨i, rfl⟩ := Int.eq_ofNat_of_zero_le hw.2.1
        obtain ⟨k, rfl⟩ := Int.eq_ofNat_of_zero_le (show 0 ≤ k by omega)
        exact Mark_loop b1 o1 b2 o2 n' c c' ws ts i k tag (if tag = 1 then 30 else 29) (by rcases ht with rfl | rfl <;> simp) w S1 S2 hn hn' R1 R2 hm (by omega) (by omega) (by omega)
      · have z4 : n' ≤ 160 := by omega
        have e : markE ws ts i k tag = 3 := by rw [markE, if_pos ⟨hm, ht⟩, if_neg (by rw [hn]; exact hw)]
        have E := Lib.hid (And.intro e (And.intro (show markW ws ts i k tag = [] by rw [markW, if_neg (by rw [e]; decide)]) (show markT ws ts i k tag = [] by rw [markT, if_neg (by rw [e]; decide)])))
        rw [E.out.1, E.out.2.1, E.out.2.2]
        have Hm := Lib.hid hm
        have Hw := Lib.hid (by simpa using hw : withinB n' i k = false)
        have b0 : ((tag != 1) = false) ∨ ((tag != 1) = true ∧ (tag != 2) = false) := by
          rcases ht with rfl | rfl <;> simp
        clear e hm hw ht z0 z1 z2 hn hn'
        rcases b0 with h1 | ⟨h1, h2⟩
        all_goals
          go_enter Try.func21, Try.ntmps21
          go_wp2_with fail
          refine (Right_any _ _ n' c n' c' ws ts _ (slA _ (slA _ S1)) (slA _ (slA _ S2))).mono ?_
          rintro e w1 ⟨rfl, hb⟩
          have hb1 : Below w.heap.size w w1 := below_from (by go_grown) hb
          obtain ⟨hc, hf⟩ := bcell hb
          have hs1 : w.heap.size + 1 < w1.heap.size := by have := hb.size; simp at this; omega
          have hs0 : w.heap.size < w1.heap.size := by omega
          have g3 : w1.cell? ⟨w.heap.size + 1, 0, none⟩ = some (.slice none 0 0) := by rw [hc _ _ (by simp)]; simp
          have g4 : w1.cell? ⟨w.heap.size + 1, 1, none⟩ = some (.slice none 0 0) := by rw [hc _ _ (by simp)]; simp
          rw [Hm.out]
          go_wp2_with fail
          refine (within_any _ _ n' c n' c' i k _ z4 HB.out.1 HB.out.2).mono ?_
          rintro e w2 ⟨rfl, hb'⟩
          have hb2 : Below w.heap.size w w2 := hb1.trans (hb'.mono (by omega))
          obtain ⟨hc', hf'⟩ := bcell hb'
          have k3 : w2.cell? ⟨w.heap.size + 1, 0, none⟩ = some (.slice none 0 0) := by rw [hc' _ _ (by omega)]; exact g3
          have k4 : w2.cell? ⟨w.heap.size + 1, 1, none⟩ = some (.slice none 0 0) := by rw [hc' _ _ (by omega)]; exact g4
          have hs2 : w.heap.size + 1 < w2.heap.size := by have := hb'.size; omega
          rw [Hw.out]
          go_wp2
          refine bp_cell_tmp ⟨w.heap.size + 1, 0, none⟩ rfl rfl rfl (load_mem _ _ _ _ (by go_cell_look) (by go_cell_look)) ?_
          exact memRet_nil (by go_grown)
    · have e : markE ws ts i k tag = 1 := by rw [markE, if_neg (fun h => ht h.2)]
      have E := Lib.hid (And.intro e (And.intro (show markW ws ts i k tag = [] by rw [markW, if_neg (by rw [e]; decide)]) (show markT ws ts i k tag = [] by rw [markT, if_neg (by rw [e]; decide)])))
      rw [E.out.1, E.out.2.1, E.out.2.2]
      have Hm := Lib.hid hm
      have h1 : (tag != 1) = true := by simp; omega
      have h2 : (tag != 2) = true := by simp; omega
      clear e hm ht
      go_enter Try.func21, Try.ntmps21
      go_wp2_with fail
      refine (Right_any _ _ n c n' c' ws ts _ (slA _ (slA _ S1)) (slA _ (slA _ S2))).mono ?_
      rintro e w1 ⟨rfl, hb⟩
      have hb1 : Below w.heap.size w w1 := below_from (by go_grown) hb
      obtain ⟨hc, hf⟩ := bcell hb
      have hs1 : w.heap.size + 1 < w1.heap.size := by have := hb.size; simp at this; omega
      have g3 : w1.cell? ⟨w.heap.size + 1, 0, none⟩ = some (.slice none 0 0) := by rw [hc _ _ (by simp)]; simp
      have g4 : w1.cell? ⟨w.heap.size + 1, 1, none⟩ = some (.slice none 0 0) := by rw [hc _ _ (by simp)]; simp
      rw [Hm.out]
      go_wp2
      refine bp_cell_tmp ⟨w.heap.size + 1, 0, none⟩ rfl rfl rfl (load_mem _ _ _ _ (by go_cell_look) (by go_cell_look)) ?_
      exact memRet_nil (by go_grown)
  · have e : markE ws ts i k tag = 1 := by rw [markE, if_neg (fun h => hm h.1)]
    have E := Lib.hid (And.intro e (And.intro (show markW ws ts i k tag = [] by rw [markW, if_neg (by rw [e]; decide)]) (show markT ws ts i k tag = [] by rw [markT, if_neg (by rw [e]; decide)])))
    rw [E.out.1, E.out.2.1, E.out.2.2]
    have Hm := Lib.hid (by simpa using hm : mayB ws ts = false)
    clear e hm
    go_enter Try.func21, Try.ntmps21
    go_wp2_with fail
    refine (Right_any _ _ n c n' c' ws ts _ (slA _ (slA _ S1)) (slA _ (slA _ S2))).mono ?_
    rintro e w1 ⟨rfl, hb⟩
    have hb1 : Below w.heap.size w w1 := below_from (by go_grown) hb
    obtain ⟨hc, hf⟩ := bcell hb
    have hs1 : w.heap.size + 1 < w1.heap.size := by have := hb.size; simp at this; omega
    have g3 : w1.cell? ⟨w.heap.size + 1, 0, none⟩ = some (.slice none 0 0) := by rw [hc _ _ (by simp)]; simp
    have g4 : w1.cell? ⟨w.heap.size + 1, 1, none⟩ = some (.slice none 0 0) := by rw [hc _ _ (by simp)]; simp
    rw [Hm.out]
    go_wp2
    refine bp_cell_tmp ⟨w.heap.size + 1, 0, none⟩ rfl rfl rfl (load_mem _ _ _ _ (by go_cell_look) (by go_cell_look)) ?_
    exact memRet_nil (by go_grown)
end Go.Proofs.Ytmkpjmcekoenbaa
