/- Contracts of package memory: New, copied, Store. -/
import Derived.Test.YteojpdhmhjoeiaaMemB
namespace Go.Proofs.Yteojpdhmhjoeiaa
open Go.ChangeShapes Go.WideShapes Go.ChangeAt Go.RowKit

/-- a memory and an error: the memory reads as the two lists -/
def MemRet (ws ts : List Int) (x : Int) (w : World) (e : Ending) (w' : World) : Prop :=
  ∃ a n c a' n' c', e = .returned (.tuple #[.agg #[.slice a n c, .slice a' n' c'], .int .i64 x]) ∧ SlF w.heap.size w' a n ws ∧ SlF w.heap.size w' a' n' ts ∧ Below w.heap.size w w'
theorem memRet_nil {x : Int} {w w' : World} (hb : Below w.heap.size w w') : MemRet [] [] x w (.returned (.tuple #[.agg #[.slice none 0 0, .slice none 0 0], .int .i64 x])) w' :=
  ⟨_, _, _, _, _, _, rfl, slF_nil _ _, slF_nil _ _, hb⟩
theorem memRet_rows {x : Int} {w w' : World} {p q n m c c' : Nat} {ws ts : List Int} (hw : ws.length = n) (ht : ts.length = m) {t t' : TypeId} {fr fr' : Nat × Nat} (hp : w.heap.size ≤ p) (hq : w.heap.size ≤ q) (h1 : w'.heap[p]? = some (.cells (Ir ws) t fr)) (h2 : w'.heap[q]? = some (.cells (Ir ts) t' fr')) (hb : Below w.heap.size w w') :
    MemRet ws ts x w (.returned (.tuple #[.agg #[.slice (some ⟨p, 0, none⟩) n c, .slice (some ⟨q, 0, none⟩) m c'], .int .i64 x])) w' :=
  ⟨_, _, _, _, _, _, rfl, ⟨hw, .inr ⟨_, _, rfl, hp, row_heap h1⟩⟩, ⟨ht, .inr ⟨_, _, rfl, hq, row_heap h2⟩⟩, hb⟩

set_option maxHeartbeats 2000000 in
theorem New_any (n : Int) (w : World) :
    Calls Try.prog 65 #[.int .i64 n] w (MemRet (newL n) (newL n) (newE n) w) := by
  by_cases h : 1 ≤ n ∧ n ≤ 160
  · obtain ⟨h0, h1⟩ := h
    have HE := Lib.hid (show newE n = 0 by rw [newE, if_pos ⟨h0, h1⟩])
    obtain ⟨k, rfl⟩ := Int.eq_ofNat_of_zero_le (show 0 ≤ n by omega)
    have HL := Lib.hid (show newL (k : Int) = List.replicate k 0 by rw [newL, if_pos ⟨h0, h1⟩]; simp)
    have t0 : decide ((k : Int) < 1) = false := by simp; omega
    have t1 : decide (160 < (k : Int)) = false := by simp; omega
    have hmk := make_ints k (by omega)
    rw [HE.out, HL.out]
    have HZ := Lib.hid (Zr_eq k)
    have HN := Lib.hid (show (List.replicate k (0 : Int)).length = k by simp)
    generalize List.replicate k (0 : Int) = zs at HZ HN ⊢
    clear HL HE h0 h1
    go_enter Try.func65, Try.ntmps65
    go_wp2
    go_region
    all_goals
      rw [HZ.out]
      go_wp2
      refine bp_cell_tmp ⟨w.heap.size, 0, none⟩ rfl rfl rfl (load_mem _ _ _ _ (cellA _ (cellA _ (by simp; rfl))) (cellA _ (cellA _ (by simp; rfl)))) ?_
      refine memRet_rows HN.out HN.out (t := 3) (t' := 3) (fr := (0, 0)) (fr' := (0, 0)) (by omega) (by omega) ?_ ?_ (by go_grown)
      all_goals
        try rw [heap_drew]
        first | (rw [heap_new]; case hg => (simp; done)) | ((rw [heap_old]; case hg => (simp; done)); (rw [heap_new]; case hg => (simp; done)))
  · have HE := Lib.hid (show newE n = 2 by rw [newE, if_neg h])
    have HL := Lib.hid (show newL n = [] by rw [newL, if_neg h])
    rw [HE.out, HL.out]
    by_cases h0 : n < 1
    · have t0 : decide (n < 1) = true := by simpa using h0
      clear h h0
      go_enter Try.func65, Try.ntmps65
      go_wp2
      refine bp_cell_tmp ⟨w.heap.size, 0, none⟩ rfl rfl rfl (load_mem _ _ _ _ (by simp; rfl) (by simp; rfl)) ?_
      exact memRet_nil (by go_grown)
    · have t0 : decide (n < 1) = false := by simp; omega
      have t1 : decide (160 < n) = true := by simp; omega
      clear h h0
      go_enter Try.func65, Try.ntmps65
      go_wp2
      refine bp_cell_tmp ⟨w.heap.size, 0, none⟩ rfl rfl rfl (load_mem _ _ _ _ (by simp; rfl) (by simp; rfl)) ?_
      exact memRet_nil (by go_grown)

def CopyPost (n : Nat) (ws ts : List Int) (w : World) (e : Ending) (w' : World) : Prop :=
  ∃ p q : Nat, e = .returned (.agg #[.slice (some ⟨p, 0, none⟩) n n, .slice (some ⟨q, 0, none⟩) n n]) ∧ p ≠ q ∧ w.heap.size ≤ p ∧ w.heap.size ≤ q ∧ w'.heap[p]? = some (.cells (Ir ws) 3) ∧ w'.heap[q]? = some (.cells (Ir ts) 3) ∧ Below w.heap.size w w'

set_option maxRecDepth 100000 in
set_option maxHeartbeats 4000000 in
theorem copied_good (b1 o1 b2 o2 n c1 c2 : Nat) (ws ts : List Int) (w : World) (hw : ws.length = n) (ht : ts.length = n) (R1 : Row w b1 o1 ws) (R2 : Row w b2 o2 ts) (h160 : n ≤ 160) :
    Calls Try.prog 74 #[.agg #[.slice (some ⟨b1, o1, none⟩) n c1, .slice (some ⟨b2, o2, none⟩) n c2]] w (CopyPost n ws ts w) := by
  have hmk := make_ints n (by omega)
  have Hw := Lib.hid hw
  have Ht := Lib.hid ht
  clear hw ht
  go_enter Try.func74, Try.ntmps74
  go_wp2
  go_region
  all_goals clear hmk
  all_goals
    go_wp2_with fail
    rw [copy_ints _ _ _ _ _ _ _ _ ws Hw.out (by rw [heap_drew]; first | (rw [heap_new]; case hg => (simp; done)) | ((rw [heap_old]; case hg => (simp; done)); (rw [heap_new]; case hg => (simp; done))) | ((rw [heap_old]; case hg => (simp; done)); (rw [heap_old]; case hg => (simp; done)); (rw [heap_new]; case hg => (simp; done)))) (rowD (rowA _ (rowA _ (rowA _ (rowA _ (rowA _ R1))))))]
    rw [setRow_drew]; first | (rw [setRow_new]; case hg => (simp; done)) | ((rw [setRow_old]; case hg => (simp; done)); (rw [setRow_new]; case hg => (simp; done))) | ((rw [setRow_old]; case hg => (simp; done)); (rw [setRow_old]; case hg => (simp; done)); (rw [setRow_new]; case hg => (simp; done)))
    go_wp2_with fail
    rw [copy_ints _ _ _ _ _ _ _ _ ts Ht.out (by rw [heap_drew]; first | (rw [heap_new]; case hg => (simp; done)) | ((rw [heap_old]; case hg => (simp; done)); (rw [heap_new]; case hg => (simp; done))) | ((rw [heap_old]; case hg => (simp; done)); (rw [heap_old]; case hg => (simp; done)); (rw [heap_new]; case hg => (simp; done)))) (rowD (rowA _ (rowA _ (rowA _ (rowA _ (rowA _ R2))))))]
    rw [setRow_drew]; first | (rw [setRow_new]; case hg => (simp; done)) | ((rw [setRow_old]; case hg => (simp; done)); (rw [setRow_new]; case hg => (simp; done))) | ((rw [setRow_old]; case hg => (simp; done)); (rw [setRow_old]; case hg => (simp; done)); (rw [setRow_new]; case hg => (simp; done)))
    go_wp2_with fail
    go_returns
    exact ⟨_, _, rfl, by omega, by omega, by omega, (by rw [heap_drew]; first | (rw [heap_new]; case hg => (simp; done)) | ((rw [heap_old]; case hg => (simp; done)); (rw [heap_new]; case hg => (simp; done))) | ((rw [heap_old]; case hg => (simp; done)); (rw [heap_old]; case hg => (simp; done)); (rw [heap_new]; case hg => (simp; done)))), (by rw [heap_drew]; first | (rw [heap_new]; case hg => (simp; done)) | ((rw [heap_old]; case hg => (simp; done)); (rw [heap_new]; case hg => (simp; done))) | ((rw [heap_old]; case hg => (simp; done)); (rw [heap_old]; case hg => (simp; done)); (rw [heap_new]; case hg => (simp; done)))), by go_grown⟩

theorem cell_row {w : World} {b k : Nat} {zs : List Int} {t : TypeId} {fr : Nat × Nat} (h : w.heap[b]? = some (.cells (Ir zs) t fr)) (hk : k < zs.length) : w.cell? ⟨b, k, none⟩ = some (.int .i64 (zs.getD k 0)) := by
  simp only [World.cell?, h]
  simpa using Ir_get zs k hk
theorem free_row {w : World} {b k : Nat} {c : Array Value} {t : TypeId} (h : w.heap[b]? = some (.cells c t)) : w.frozen? ⟨b, k, none⟩ = false := by
  simp [World.frozen?, h]
theorem set_row {w : World} {b k : Nat} {zs : List Int} {t : TypeId} {fr : Nat × Nat} {v : Int} (h : w.heap[b]? = some (.cells (Ir zs) t fr)) : (w.setCell ⟨b, k, none⟩ (.int .i64 v)).heap[b]? = some (.cells (Ir (zs.set k v)) t fr) := by
  have hb : b < w.heap.size := (Array.getElem?_eq_some_iff.1 h).1
  simp only [World.setCell, Array.getElem?_modify, ↓reduceIte, h, Option.map_some]
  simp [Ir_set]
theorem heap_lt {w : World} {b : Nat} {o : Obj} (h : w.heap[b]? = some o) : b < w.heap.size := (Array.getElem?_eq_some_iff.1 h).1

set_option maxHeartbeats 4000000 in
theorem Store_any (a a' : Option Addr) (n c n' c' : Nat) (ws ts : List Int) (i v : Int) (w : World) (S1 : Sl w a n ws) (S2 : Sl w a' n' ts) (hi : (Lit.int .i64 i).wf = true) :
    Calls Try.prog 54 #[.agg #[.slice a n c, .slice a' n' c'], .int .i64 i, .int .i64 v] w (MemRet (storeW ws ts i v) (storeT ws ts i) (usableZ ws ts i) w) := by
  by_cases he : usableZ ws ts i = 0
  · obtain ⟨hm, h0, h1, h2⟩ := usable_zero he
    obtain ⟨z0, z1, z2⟩ := mayB_size hm
    have hn := S1.1
    have hn' := S2.1
    obtain rfl : n' = n := by omega
    obtain ⟨-, b1, o1, rfl, R1⟩ := sl_some S1 (by omega)
    obtain ⟨-, b2, o2, rfl, R2⟩ := sl_some S2 (by omega)
    have Hn := Lib.hid hn
    have Hn' := Lib.hid hn'
    have z3 : 1 ≤ n' := by omega
    have z4 : n' ≤ 160 := by omega
    have hlt : i < n' := by omega
    have HE := Lib.hid he
    have HW := Lib.hid hi
    have H1 := Lib.hid (show storeW ws ts i v = ws.set i.toNat v by rw [storeW, if_pos he])
    have H2 := Lib.hid (show storeT ws ts i = ts by rw [storeT, if_pos he])
    clear hm z0 z1 z2 hn hn' h1 h2 he hi
    rw [H1.out, H2.out, HE.out]
    clear H1 H2
    obtain ⟨k, rfl⟩ := Int.eq_ofNat_of_zero_le h0
    have hk : k < n' := by omega
    rw [Int.toNat_natCast]
    go_enter Try.func54, Try.ntmps54
    go_wp2_with fail
    refine (usable_any _ _ n' c n' c' ws ts _ _ (slA _ (slA _ S1)) (slA _ (slA _ S2)) HW.out).mono ?_
    rintro e w1 ⟨rfl, hb⟩
    have hb1 : Below w.heap.size w w1 := below_from (by go_grown) hb
    obtain ⟨hc, hf⟩ := bcell hb
    have hs1 : w.heap.size + 1 < w1.heap.size := by have := hb.size; simp at this; omega
    rw [HE.out]
    go_wp2_with fail
    refine (copied_good b1 o1 b2 o2 n' c c' ws ts _ Hn.out Hn'.out (rowB hb1 R1) (rowB hb1 R2) z4).mono ?_
    rintro e w2 ⟨p, q, rfl, hpq, hp, hq, hhp, hhq, hb'⟩
    have hb2 : Below w.heap.size w w2 := hb1.trans (hb'.mono hb1.size)
    obtain ⟨hc', hf'⟩ := bcell hb'
    have hs2 : w.heap.size + 1 < w2.heap.size := by have := hb'.size; omega
    have hp2 := heap_lt hhp
    have hq2 := heap_lt hhq
    have Hp := Lib.hid hhp
    have Hq := Lib.hid hhq
    have g1 : (w2.alloc (.cells #[.slice (some ⟨p, 0, none⟩) n' n', .slice (some ⟨q, 0, none⟩) n' n'] 25)).cell? ⟨p, k, none⟩ = some (.int .i64 (ws.getD k 0)) := cellA _ (cell_row hhp (by rw [Hn.out]; exact hk))
    have g2 : (w2.alloc (.cells #[.slice (some ⟨p, 0, none⟩) n' n', .slice (some ⟨q, 0, none⟩) n' n'] 25)).frozen? ⟨p, k, none⟩ = false := free_row (by rw [heap_old _ _ _ hp2]; exact hhp)
    generalize ws.getD k 0 = wv at g1
    clear hhp hhq
    have g3 : w2.cell? ⟨w.heap.size + 1, 0, none⟩ = some (.slice none 0 0) := by rw [hc' _ _ (by omega), hc _ _ (by simp)]; simp
    have g4 : w2.cell? ⟨w.heap.size + 1, 1, none⟩ = some (.slice none 0 0) := by rw [hc' _ _ (by omega), hc _ _ (by simp)]; simp
    go_wp2_with fail
    refine bp_cell_tmp ⟨w.heap.size + 1, 0, none⟩ rfl rfl rfl (load_mem _ _ _ _ (cellA _ (by go_cell_look)) (cellA _ (by go_cell_look))) ?_
    refine memRet_rows (t := 3) (t' := 3) (fr := (0, 0)) (fr' := (0, 0)) (by rw [List.length_set, Hn.out]) Hn'.out (by omega) (by omega) ?_ ?_ (by go_grown)
    · rw [heap_old _ _ _ (by simp; omega), Below.heap_setCell _ _ _ _ (by simp; omega), Below.heap_setCell _ _ _ _ (by simp; omega)]
      exact set_row Hp.out
    · rw [heap_old _ _ _ (by simp; omega), Below.heap_setCell _ _ _ _ (by simp; omega), Below.heap_setCell _ _ _ _ (by simp; omega), Below.heap_setCell _ _ _ _ (by simp; omega)]
      exact Hq.out
  · have HE := Lib.hid (show (usableZ ws ts i != 0) = true by simpa using he)
    have H1 := Lib.hid (show storeW ws ts i v = [] by rw [storeW, if_neg he])
    have H2 := Lib.hid (show storeT ws ts i = [] by rw [storeT, if_neg he])
    have HW := Lib.hid hi
    clear he hi
    rw [H1.out, H2.out]
    obtain ⟨ev, hev⟩ : ∃ ev, usableZ ws ts i = ev := ⟨_, rfl⟩
    have HX := Lib.hid hev
    have HE' := HE.out
    rw [hev] at HE' ⊢
    clear hev HE
    go_enter Try.func54, Try.ntmps54
    go_wp2_with fail
    refine (usable_any _ _ n c n' c' ws ts _ _ (slA _ (slA _ S1)) (slA _ (slA _ S2)) HW.out).mono ?_
    rintro e w1 ⟨rfl, hb⟩
    have hb1 : Below w.heap.size w w1 := below_from (by go_grown) hb
    obtain ⟨hc, hf⟩ := bcell hb
    have hs1 : w.heap.size + 1 < w1.heap.size := by have := hb.size; simp at this; omega
    have g3 : w1.cell? ⟨w.heap.size + 1, 0, none⟩ = some (.slice none 0 0) := by rw [hc _ _ (by simp)]; simp
    have g4 : w1.cell? ⟨w.heap.size + 1, 1, none⟩ = some (.slice none 0 0) := by rw [hc _ _ (by simp)]; simp
    rw [HX.out]
    go_wp2
    refine bp_cell_tmp ⟨w.heap.size + 1, 0, none⟩ rfl rfl rfl (load_mem _ _ _ _ (by go_cell_look) (by go_cell_look)) ?_
    exact memRet_nil (by go_grown)
end Go.Proofs.Yteojpdhmhjoeiaa
