/- Package litmus: Outcomes, but for what slices.SortFunc does of it. -/
import Derived.Test.YtiebaeaomgpicaaGreatLitO
import Derived.Test.YtiebaeaomgpicaaGreatLitJ
namespace Go.Proofs.YtiebaeaomgpicaaGreat
open Go.ChangeShapes Go.WideShapes Go.ChangeAt Go.RowKit
open Gen
attribute [local go_sem] store_func

theorem met_new (w : World) (g : Nat) (hg : g = w.heap.size) : MetMap (w.alloc (.map #[] 0)) g [] := by
  subst hg
  exact ⟨by simp, 0, .map [], World.ownsMap_made _ _ _ _, by simp, Maps.isMap_empty, fun k => rfl⟩
set_option maxHeartbeats 2000000 in
/-- the world in which the closure begins -/
theorem start_any {w1 : World} {B gl l d : Nat} {W D : Int} {q : Option Addr} (hX : VarN w1 gl [.int .i64 W, .int .i64 D, .slice q l d]) {W3 : World}
    (hW : W3 = ((((w1.alloc (Obj.cells #[Value.slice none 0 0] 27)).alloc (Obj.map #[] 0)).alloc (Obj.cells #[Value.map (some (w1.heap.size + 1))] 40)).alloc
      (Obj.cells #[(.func (.func 13) #[] #[.pointer (some ⟨w1.heap.size + 1 + 1, 0, none⟩), .pointer (some ⟨w1.heap.size, 0, none⟩), .pointer (some ⟨gl, 0, none⟩), .pointer (some ⟨w1.heap.size + 1 + 1 + 1, 0, none⟩)])] 41))) :
    Env (w1.heap.size + 1 + 1) w1.heap.size gl (w1.heap.size + 1 + 1 + 1) (w1.heap.size + 1) l W3 ∧ Mut B (w1.heap.size + 1 + 1) w1.heap.size gl (w1.heap.size + 1 + 1 + 1) (w1.heap.size + 1) ([], []) (.slice none 0 0) W3 ∧ Below w1.heap.size w1 W3 ∧ W3.heap.size = w1.heap.size + 4 := by
  have hgl := varN_lt hX (by simp)
  obtain ⟨n, hn⟩ : ∃ n, w1.heap.size = n := ⟨_, rfl⟩
  have hb : Below w1.heap.size w1 W3 := by rw [hW]; go_grown
  have X3 := varN_B hb hX
  rw [hn] at hW hgl hb ⊢
  have s0 : (w1.alloc (Obj.cells #[Value.slice none 0 0] 27)).heap.size = n + 1 := by simp [hn]
  have a0 : (w1.alloc (Obj.cells #[Value.slice none 0 0] 27)).heap[n]? = some _ := heap_at_new w1 _ n hn.symm
  obtain ⟨V0, hV0⟩ : ∃ V, V = w1.alloc (Obj.cells #[Value.slice none 0 0] 27) := ⟨_, rfl⟩
  rw [← hV0] at hW s0 a0
  have m1 := met_new V0 (n + 1) s0.symm
  have s1 : (V0.alloc (Obj.map #[] 0)).heap.size = n + 1 + 1 := by simp [s0]
  have c0 : V0.cell? ⟨n, 0, none⟩ = some (.slice none 0 0) := by simp [World.cell?, a0]
  have f0 : V0.frozen? ⟨n, 0, none⟩ = false := free_row a0
  have c1 := cellA (Obj.map #[] 0) c0
  have f1 := (frozenA (Obj.map #[] 0) c0).trans f0
  obtain ⟨V1, hV1⟩ : ∃ V, V = V0.alloc (Obj.map #[] 0) := ⟨_, rfl⟩
  rw [← hV1] at hW s1 c1 f1 m1
  have a2 := heap_at_new V1 (Obj.cells #[Value.map (some (n + 1))] 40) (n + 1 + 1) s1.symm
  have s2 : (V1.alloc (Obj.cells #[Value.map (some (n + 1))] 40)).heap.size = n + 1 + 1 + 1 := by simp [s1]
  have c2 := cellA (Obj.cells #[Value.map (some (n + 1))] 40) c1
  have f2 := (frozenA (Obj.cells #[Value.map (some (n + 1))] 40) c1).trans f1
  have hb2 : Below V1.heap.size V1 (V1.alloc (Obj.cells #[Value.map (some (n + 1))] 40)) := by go_grown
  have m2 : MetMap (V1.alloc (Obj.cells #[Value.map (some (n + 1))] 40)) (n + 1) [] := met_kept m1 (World.grownBy_alloc _ _ none) (by simp)
  obtain ⟨V2, hV2⟩ : ∃ V, V = V1.alloc (Obj.cells #[Value.map (some (n + 1))] 40) := ⟨_, rfl⟩
  rw [← hV2] at hW s2 c2 f2 m2 a2
  have k2 : V2.cell? ⟨n + 1 + 1, 0, none⟩ = some (.map (some (n + 1))) := by simp [World.cell?, a2]
  have s3 : ∀ o : Obj, (V2.alloc o).heap.size = n + 1 + 1 + 1 + 1 := by intro o; simp [s2]
  have c3 := fun o => cellA o c2
  have f3 := fun o => (frozenA o c2).trans f2
  have k3 := fun o => cellA o k2
  have m3 : ∀ o : Obj, MetMap (V2.alloc o) (n + 1) [] := fun o => met_kept m2 (World.grownBy_alloc _ _ none) (by simp)
  subst hW
  refine ⟨⟨k3 _, cell_new _ _ _ s2.symm rfl, ⟨q, d, (X3 2 _ rfl).1⟩, by omega⟩, ⟨m3 _, c3 _, f3 _, ⟨[], World.ownsRow_nil _ _ _ _, flat_nil⟩, by intro b h; cases h⟩, hb, s3 _⟩

theorem rows_short {W D : Int} {ts : List (List Mv)} (hm : mayL W D ts = true) : ∀ o ∈ rowsL W D ts, o.length ≤ 9 := by
  intro o ho
  obtain ⟨s, hs, _, rfl⟩ := ((rows_once hm).2 o).1 ho
  exact (out_len hm (reach_ok hm hs)).2
/-- what is asked of slices.SortFunc with slices.Compare: a row of the call's own holds then these rows, sorted -/
def SortSays (srt : List (List Int) → List (List Int)) : Prop :=
  ∀ (v : Value) (rows : List (List Int)) (vs : List Value) (w : World) (B : Nat) (Q : Nat → Prop), w.ownsRow B 23 1 v rows.length vs → Flat (repSlice repInt) Q w vs rows → (∀ b, v.ownBlock = some b → ¬ Q b) → (∀ o ∈ rows, o.length ≤ 9) → rows.length ≤ 2 * 10 ^ 9 → rows.Nodup →
    Calls Tryz.prog 20 #[v, .func (.func 21) #[] #[]] w fun e w' => e = .returned (.tuple #[]) ∧ ∃ vs', w'.ownsRow B 23 1 v rows.length vs' ∧ Flat (repSlice repInt) Q w' vs' (srt rows) ∧ Kept (fun b => v.ownBlock ≠ some b) w w' ∧ Below B w w'

set_option maxRecDepth 100000 in
set_option maxHeartbeats 8000000 in
theorem outcomes_no (W D : Int) (q : Option Addr) (l d : Nat) (ts : List (List Mv)) (w : World) (V : Vs (repSlice repInt3) Any w q l ts) (hlen : ∀ t ∈ ts, t.length ≤ 100) (hl : l ≤ 1000) (hm : mayL W D ts = false) :
    Calls Tryz.prog 5 #[.agg #[.int .i64 W, .int .i64 D, .slice q l d]] w fun e w' => e = .returned (.tuple #[.slice none 0 0, .int .i64 1]) ∧ Below w.heap.size w w' := by
  obtain ⟨G, hG⟩ : ∃ G, G = w.alloc (Obj.cells #[.int .i64 W, .int .i64 D, .slice q l d] 25) := ⟨_, rfl⟩
  have hbG : Below w.heap.size w G := by rw [hG]; go_grown
  have X : VarN G w.heap.size [.int .i64 W, .int .i64 D, .slice q l d] := by rw [hG]; exact varN_new [.int .i64 W, .int .i64 D, .slice q l d] _ rfl
  have hr := litRight_any W D q l d ts G (vs_B hbG V) hlen hl
  rw [hm] at hr
  have HG := Lib.hid hG
  have HB := Lib.hid hbG
  have x0 := (X 0 _ rfl).1
  have x1 := (X 1 _ rfl).1
  have x2 := (X 2 _ rfl).1
  clear hG hbG X V
  go_enter Tryz.func5, Tryz.ntmps5
  go_upto_region 1 with fail
  rw [← HG.out]
  go_wp2_with fail
  refine hr.mono ?_
  rintro e w1 ⟨rfl, hb1⟩
  have HB1 := Lib.hid (below_from HB.out hb1)
  clear hb1
  go_wp2
  go_ret2
  exact ⟨rfl, HB1.out⟩

set_option maxRecDepth 100000 in
set_option maxHeartbeats 8000000 in
theorem outcomes_any {srt : List (List Int) → List (List Int)} (hsort : SortSays srt) (W D : Int) (q : Option Addr) (d : Nat) (ts : List (List Mv)) (w : World) (V : Vs (repSlice repInt3) Any w q ts.length ts) (hlen : ∀ t ∈ ts, t.length ≤ 100) (hm : mayL W D ts = true) :
    Calls Tryz.prog 5 #[.agg #[.int .i64 W, .int .i64 D, .slice q ts.length d]] w fun e w' => ∃ v vs, e = .returned (.tuple #[v, .int .i64 0]) ∧ w'.ownsRow w.heap.size 23 1 v (rowsL W D ts).length vs ∧ Flat (repSlice repInt) (fun b => w.heap.size ≤ b ∧ v.ownBlock ≠ some b) w' vs (srt (rowsL W D ts)) ∧ Below w.heap.size w w' := by
  obtain ⟨⟨hW1, hW2, hD1, hD2⟩, ⟨hl1, hl3⟩, _⟩ := mayL_parts hm
  obtain ⟨G, hG⟩ : ∃ G, G = w.alloc (Obj.cells #[.int .i64 W, .int .i64 D, .slice q ts.length d] 25) := ⟨_, rfl⟩
  have hbG : Below w.heap.size w G := by rw [hG]; go_grown
  have X : VarN G w.heap.size [.int .i64 W, .int .i64 D, .slice q ts.length d] := by rw [hG]; exact varN_new [.int .i64 W, .int .i64 D, .slice q ts.length d] _ rfl
  have hgl := varN_lt X (by simp)
  have hr := litRight_any W D q ts.length d ts G (vs_B hbG V) hlen (by omega)
  rw [hm] at hr
  have HG := Lib.hid hG
  have HB := Lib.hid hbG
  have HX := Lib.hid X
  have HV := Lib.hid (vs_old V)
  have x0 := (X 0 _ rfl).1
  have x1 := (X 1 _ rfl).1
  have x2 := (X 2 _ rfl).1
  clear hG hbG X V
  go_enter Tryz.func5, Tryz.ntmps5
  go_upto_region 1 with fail
  rw [← HG.out]
  go_wp2_with fail
  refine hr.mono ?_
  rintro e w1 ⟨rfl, hb1⟩
  have HB1 := Lib.hid (below_from HB.out hb1)
  have hgl1 : w.heap.size < w1.heap.size := Nat.lt_of_lt_of_le hgl hb1.size
  have HX1 := Lib.hid (varN_B hb1 HX.out)
  clear hb1 x0 x1 x2 hr
  have hmm := @run_makeMap Tryz.prog
  obtain ⟨W3, hW3⟩ : ∃ W3, W3 = ((((w1.alloc (Obj.cells #[Value.slice none 0 0] 27)).alloc (Obj.map #[] 0)).alloc (Obj.cells #[Value.map (some (w1.heap.size + 1))] 40)).alloc
      (Obj.cells #[(.func (.func 13) #[] #[.pointer (some ⟨w1.heap.size + 1 + 1, 0, none⟩), .pointer (some ⟨w1.heap.size, 0, none⟩), .pointer (some ⟨w.heap.size, 0, none⟩), .pointer (some ⟨w1.heap.size + 1 + 1 + 1, 0, none⟩)])] 41)) := ⟨_, rfl⟩
  obtain ⟨E3, M3, hb3, hs3⟩ := start_any (B := w.heap.size) HX1.out hW3
  have X3 := varN_B hb3 HX1.out
  have HE3 := Lib.hid E3
  have HM3 := Lib.hid M3
  have HB3 := Lib.hid (below_from HB1.out hb3)
  have HX3 := Lib.hid X3
  have y0 := (X3 0 _ rfl).1
  have y1 := (X3 1 _ rfl).1
  have y2 := (X3 2 _ rfl).1
  have yf := E3.cf
  have HW3 := Lib.hid hW3
  clear E3 M3 hb3 X3 hW3
  go_wp2
  rw [← HW3.out]
  have hQ : ∀ b, (b < w.heap.size ∨ W3.heap.size ≤ b) → Qx (w1.heap.size + 1) w1.heap.size (.slice none 0 0) b := by
    intro b h
    rw [hs3] at h
    exact ⟨by rcases h with h | h <;> omega, by rcases h with h | h <;> omega, by intro h; cases h⟩
  have HV3 := Lib.hid (vs_keep (fun b o v hq hc => (HB3.out.cell (p := ⟨b, o, none⟩) hq).trans hc) HV.out)
  go_region_with (first | (go_at_call 19; refine (begun_any W D q ts.length d ts _ (fun b => b < w.heap.size) (vs_D HV3.out) ⟨hW1, hW2⟩ ⟨hD1, hD2⟩ ⟨hl1, hl3⟩).mono ?_; rintro e w5 ⟨a5, b5, q5, n5, c5, m5, e5, l5, d5, p5, pl5, pc5, r5, rl5, rc5, rfl, S5, hb5⟩; obtain rfl : l5 = ts.length := S5.2.2.1.1.symm.trans (by simp [beginS]); have hb5' := below_from (Below.refl _ _).drew hb5; have yf5 := cellB hb5' yf; have S5' := stQ_mono hQ S5; have HS5 := Lib.hid S5'; have HB5 := Lib.hid hb5'; clear S5 S5' hb5 hb5') | (go_at_call 13; refine (from_any hm w.heap.size (w1.heap.size + 1 + 1) w1.heap.size w.heap.size (w1.heap.size + 1 + 1 + 1) (w1.heap.size + 1) (by omega) (by omega) 46 (beginS W D ts) a5 b5 q5 n5 c5 m5 e5 d5 p5 pl5 pc5 r5 rl5 rc5 ([], []) (.slice none 0 0) w5 (ok_begin hm) (by have := mu_le hm (ok_begin hm); omega) metOk_nil (env_B HB5.out HE3.out) (mut_B HB5.out HM3.out) HS5.out (by have := HB5.out.size; omega)).mono ?_; rintro e w7 ⟨rfl, v7, M7, A7⟩; have HM7 := Lib.hid M7; have HA7 := Lib.hid A7; clear M7 A7))
  all_goals
    obtain ⟨vs, hown, hflat⟩ := HM7.out.own
    obtain ⟨a7, c7, rfl⟩ := own_shapeT hown
    have z7 := HM7.out.cell
    have hb7 := (HB3.out.trans (HB5.out.mono (by have := HB3.out.size; exact this))).trans HA7.out.below
    have hfew := (metOk_few hm (metOk_dfs (f := 46) hm (ok_begin hm) (by have := mu_le hm (ok_begin hm); omega) metOk_nil)).2.1
    have hsr := hsort _ (rowsL W D ts) vs w7 w.heap.size _ hown hflat (fun b hb hq => hq.2.2.2 hb) (rows_short hm) hfew (rows_once hm).1
    have hsep := (HM7.out.sep)
    have HB7 := Lib.hid hb7
    have HSEP := Lib.hid hsep
    clear hb7 hsep hfew hown hflat
    go_wp2_with fail
    refine hsr.mono ?_
    rintro e w8 ⟨rfl, vs8, own8, flat8, kept8, below8⟩
    have z8 := kept8 _ _ _ (fun hb => (HSEP.out _ hb).2.2.2.1 rfl) z7
    have H8 := Lib.hid (And.intro own8 (And.intro flat8 (HB7.out.trans below8)))
    clear own8 flat8 kept8 below8 z7
    go_wp2
    go_ret2
    exact ⟨_, _, rfl, H8.out.1, flat_mono (fun _ h => ⟨h.1, h.2.2.2⟩) H8.out.2.1, H8.out.2.2⟩
end Go.Proofs.YtiebaeaomgpicaaGreat
