/- The contract of respiteref01.New. -/
import Derived.Test.YtiebaeaomgpicaaGreatRefD
import Derived.Maps.AppendAt
namespace Go.Proofs.YtiebaeaomgpicaaGreat
open Go.ChangeShapes Go.WideShapes Go.ChangeAt Go.RowKit

def Zs (j : Nat) : List Value := (List.replicate j (0 : Int)).map (Value.int .i64)
theorem Zs_succ (j : Nat) : Zs (j + 1) = Zs j ++ [.int .i64 0] := by simp [Zs, List.replicate_succ']

/-- a step that writes rows from B on alone, and makes blocks -/
structure Kept (B : Nat) (w w' : World) : Prop where
  os : w'.os = w.os
  tape : w'.tape = w.tape
  output : w'.output = w.output
  size : w.heap.size ≤ w'.heap.size
  block : ∀ k, k < B → k < w.heap.size → w'.heap[k]? = w.heap[k]?
theorem Kept.cell {B : Nat} {w w' : World} (h : Kept B w w') {p : Addr} {v : Value} (hp : p.block < B) (hc : w.cell? p = some v) : w'.cell? p = some v := by
  rw [World.cell?_of_block (w := w) (h.block _ hp (cell_lt hc))]; exact hc
theorem Kept.free {B : Nat} {w w' : World} (h : Kept B w w') {p : Addr} {v : Value} (hp : p.block < B) (hc : w.cell? p = some v) (hf : w.frozen? p = false) : w'.frozen? p = false := by
  rw [World.frozen?_of_block (w := w) (h.block _ hp (cell_lt hc))]; exact hf
theorem Kept.below {B : Nat} {w0 w w' : World} (h : Kept B w w') (hb : Below w0.heap.size w0 w) (hB : w0.heap.size ≤ B) : Below w0.heap.size w0 w' :=
  hb.trans ⟨h.os, h.tape, h.output, h.size, fun k hk => h.block k (by omega) (by have := hb.size; omega)⟩
theorem kept_of {B : Nat} {w w' : World} {o : Obj} {v : Value} {n : Nat} {e : TypeId} {xs : List Value} (hv : w.ownsRow B e 1 v n xs) (hg : (w.alloc o).grownBy w' v.ownBlock) : Kept B w w' :=
  ⟨hg.os, hg.tape, hg.output, by have := hg.size; simp at this; omega, fun k hk hkw => by
    rw [hg.block k (by simp; omega) (fun e => by have := (hv.lt k e.symm).1; omega)]
    exact heap_old w o k hkw⟩

theorem slF_mono {F F' : Nat} {w : World} {a : Option Addr} {n : Nat} {zs : List Int} (hF : F' ≤ F) (h : SlF F w a n zs) : SlF F' w a n zs :=
  ⟨h.1, h.2.imp id fun ⟨b, o, e, hb, r⟩ => ⟨b, o, e, by omega, r⟩⟩
def Apart (v u : Value) : Prop := v.ownBlock = none ∧ u.ownBlock = none ∨ v.ownBlock ≠ u.ownBlock
theorem apart_next {B : Nat} {w0 : World} {u v v' : Value} {n : Nat} {e : TypeId} {xs : List Value} (ha : Apart v u) (hu : w0.ownsRow B e 1 u n xs)
    (hat : v'.ownBlock = v.ownBlock ∨ v'.ownBlock = some (w0.heap.size + 1)) (hnil : v'.ownBlock = none → False) : v'.ownBlock ≠ u.ownBlock := by
  rcases hat with h | h
  · rcases ha with ⟨h1, h2⟩ | h1
    · exact fun _ => hnil (h.trans h1)
    · rw [h]; exact h1
  · rw [h]
    intro e
    have := (hu.lt _ e.symm).2
    omega
theorem own_shape {w : World} {B : Nat} {e : TypeId} {v : Value} {n : Nat} {xs : List Value} (h : w.ownsRow B e 1 v n xs) : ∃ a c, v = .slice a n c := by
  rcases h.2 with ⟨rfl, rfl⟩ | ⟨g, cap, cur, rfl, _⟩
  · exact ⟨_, _, rfl⟩
  · exact ⟨_, _, rfl⟩
theorem own_some {w : World} {B : Nat} {e : TypeId} {v : Value} {n : Nat} {xs : List Value} (h : w.ownsRow B e 1 v (n + 1) xs) : v.ownBlock = none → False := by
  rcases h.2 with ⟨_, h0⟩ | ⟨g, cap, cur, rfl, _⟩
  · omega
  · intro h; simp [Value.ownBlock] at h
theorem own_other {w w' : World} {B : Nat} {e : TypeId} {u v : Value} {n : Nat} {xs : List Value} {o : Obj} (hu : w.ownsRow B e 1 u n xs) (ha : Apart v u) (hg : (w.alloc o).grownBy w' v.ownBlock) : w'.ownsRow B e 1 u n xs :=
  (hu.alloc o).kept hg (by
    rcases ha with ⟨_, h⟩ | h
    · exact .inl h
    · exact .inr (fun e => h e.symm))

structure NewRel (B S : Nat) (w : World) (j k : Nat) (wr : World) (v u : Value) : Prop where
  hv : wr.ownsRow B 3 1 v j (Zs j)
  hu : wr.ownsRow B 3 1 u k (Zs k)
  apart : Apart v u
  c0 : wr.cell? ⟨S, 0, none⟩ = some (.slice none 0 0)
  c1 : wr.cell? ⟨S, 1, none⟩ = some (.slice none 0 0)
  d0 : wr.cell? ⟨S + 1, 0, none⟩ = some v
  d1 : wr.cell? ⟨S + 1, 1, none⟩ = some u
  f0 : wr.frozen? ⟨S, 0, none⟩ = false
  f1 : wr.frozen? ⟨S, 1, none⟩ = false
  g0 : wr.frozen? ⟨S + 1, 0, none⟩ = false
  g1 : wr.frozen? ⟨S + 1, 1, none⟩ = false
  below : Below w.heap.size w wr

theorem cell_set0 {w : World} {a : Addr} {x : Value} (v : Value) (h : w.cell? a = some x) : (w.setCell a v).cell? a = some v := World.cell?_setCell_same _ _ _ h
theorem new_v {S : Nat} {w wr w1 : World} {j k : Nat} {v u v' : Value} {o : Obj} (hS : w.heap.size = S) (h : NewRel (S + 2) S w j k wr v u) (hown : w1.ownsRow (S + 2) 3 1 v' (j + 1) (Zs j ++ [.int .i64 0])) (hg : (wr.alloc o).grownBy w1 v.ownBlock)
    (hat : v'.ownBlock = v.ownBlock ∨ v'.ownBlock = some (wr.heap.size + 1)) : NewRel (S + 2) S w (j + 1) k (w1.setCell ⟨S + 1, 0, none⟩ v') v' u := by
  have hk := kept_of h.hv hg
  have e0 : w1.cell? ⟨S + 1, 0, none⟩ = some v := hk.cell (by simp) h.d0
  have e1 : w1.cell? ⟨S + 1, 1, none⟩ = some u := hk.cell (by simp) h.d1
  refine ⟨?_, ?_, .inr (apart_next h.apart h.hu hat (own_some hown)), ?_, ?_, cell_set0 _ e0, ?_, ?_, ?_, ?_, ?_, ?_⟩
  · rw [← Zs_succ] at hown; exact ownsRow_setCell_below hown (by simp) _
  · exact ownsRow_setCell_below (own_other h.hu h.apart hg) (by simp) _
  · rw [World.cell?_setCell_other _ _ _ _ (by simp)]; exact hk.cell (by simp) h.c0
  · rw [World.cell?_setCell_other _ _ _ _ (by simp)]; exact hk.cell (by simp) h.c1
  · rw [World.cell?_setCell_other _ _ _ _ (by simp)]; exact e1
  · rw [World.frozen?_setCell]; exact hk.free (by simp) h.c0 h.f0
  · rw [World.frozen?_setCell]; exact hk.free (by simp) h.c1 h.f1
  · rw [World.frozen?_setCell]; exact hk.free (by simp) h.d0 h.g0
  · rw [World.frozen?_setCell]; exact hk.free (by simp) h.d1 h.g1
  · exact (hk.below h.below (by omega)).setCell (by simp; omega) _
theorem new_u {S : Nat} {w wr w1 : World} {j k : Nat} {v u u' : Value} {o : Obj} (hS : w.heap.size = S) (h : NewRel (S + 2) S w j k wr v u) (hown : w1.ownsRow (S + 2) 3 1 u' (k + 1) (Zs k ++ [.int .i64 0])) (hg : (wr.alloc o).grownBy w1 u.ownBlock)
    (hat : u'.ownBlock = u.ownBlock ∨ u'.ownBlock = some (wr.heap.size + 1)) : NewRel (S + 2) S w j (k + 1) (w1.setCell ⟨S + 1, 1, none⟩ u') v u' := by
  have hk := kept_of h.hu hg
  have ha : Apart u v := h.apart.imp (fun x => ⟨x.2, x.1⟩) (fun x e => x e.symm)
  have e0 : w1.cell? ⟨S + 1, 0, none⟩ = some v := hk.cell (by simp) h.d0
  have e1 : w1.cell? ⟨S + 1, 1, none⟩ = some u := hk.cell (by simp) h.d1
  refine ⟨?_, ?_, .inr (fun e => apart_next ha h.hv hat (own_some hown) e.symm), ?_, ?_, ?_, cell_set0 _ e1, ?_, ?_, ?_, ?_, ?_⟩
  · exact ownsRow_setCell_below (own_other h.hv ha hg) (by simp) _
  · rw [← Zs_succ] at hown; exact ownsRow_setCell_below hown (by simp) _
  · rw [World.cell?_setCell_other _ _ _ _ (by simp)]; exact hk.cell (by simp) h.c0
  · rw [World.cell?_setCell_other _ _ _ _ (by simp)]; exact hk.cell (by simp) h.c1
  · rw [World.cell?_setCell_other _ _ _ _ (by simp)]; exact e0
  · rw [World.frozen?_setCell]; exact hk.free (by simp) h.c0 h.f0
  · rw [World.frozen?_setCell]; exact hk.free (by simp) h.c1 h.f1
  · rw [World.frozen?_setCell]; exact hk.free (by simp) h.d0 h.g0
  · rw [World.frozen?_setCell]; exact hk.free (by simp) h.d1 h.g1
  · exact (hk.below h.below (by omega)).setCell (by simp; omega) _

set_option maxHeartbeats 4000000 in
theorem refNew_any (n : Nat) (w : World) (h160 : n ≤ 160) :
    Calls Tryz.prog 43 #[.int .i64 n] w fun e w' => ∃ a c a' c', e = .returned (.agg #[.slice a n c, .slice a' n c']) ∧ SlF w.heap.size w' a n (List.replicate n 0) ∧ SlF w.heap.size w' a' n (List.replicate n 0) ∧ Below w.heap.size w w' := by
  obtain ⟨i0, hi, hz0, hz1, hz2⟩ := info_parts Tryz.info3
  have HI := Lib.hid (And.intro hi (And.intro hz0 (And.intro hz1 hz2)))
  clear hi hz0 hz1 hz2
  go_enter Tryz.func43, Tryz.ntmps43
  go_wp2
  obtain ⟨W, hW⟩ : ∃ W, W = (w.alloc (Obj.cells #[.slice none 0 0, .slice none 0 0] 43)).alloc (Obj.cells #[.slice none 0 0, .slice none 0 0] 43) := ⟨_, rfl⟩
  have HR : NewRel (w.heap.size + 2) w.heap.size w 0 0 W (.slice none 0 0) (.slice none 0 0) := by
    rw [hW]
    exact ⟨World.ownsRow_nil _ _ _ _, World.ownsRow_nil _ _ _ _, .inl ⟨rfl, rfl⟩, cellA _ (by simp), cellA _ (by simp), by simp, by simp,
      free_row ((heap_old _ _ _ (by simp)).trans (heap_new _ _ _ (by simp))), free_row ((heap_old _ _ _ (by simp)).trans (heap_new _ _ _ (by simp))), free_row (heap_new _ _ _ (by simp)), free_row (heap_new _ _ _ (by simp)), by go_grown⟩
  have hWs : w.heap.size + 2 ≤ W.heap.size := by rw [hW]; simp
  rw [← hW]
  have HR' := Lib.hid HR
  clear hW HR
  go_loopw [4] (fun s wr => ∃ j : Nat, j ≤ n ∧ s = .int .i64 j ∧ w.heap.size + 2 ≤ wr.heap.size ∧ ∃ v u, Hid (NewRel (w.heap.size + 2) w.heap.size w j j wr v u)) (fun s _ => n - (intOf s).toNat)
  case atStart => exact ⟨0, by omega, rfl, hWs, _, _, HR'.out⟩
  case round =>
    obtain ⟨j, hj, rfl, hws, v, u, hr⟩ := hrel
    clear HR' hWs
    by_cases hlt : j < n
    · have d0 := hr.out.d0
      have d1 := hr.out.d1
      have g0 := hr.out.g0
      go_wp2_with (at_builtin; refine wpList_append_own_at _ rfl _ _ 23 rfl (w.heap.size + 2) 3 i0 (.int .i64 0) 1 8 Tryz.underlying23 HI.out.1 HI.out.2.1 HI.out.2.2.1 HI.out.2.2.2 rfl (by decide) _ _ _ rfl (hr.out.hv.alloc _) ⟨wr.heap.size, 0, none⟩ 1 1 [.int .i64 0] rfl rfl ?c1 ?c2 ?c3 ?c4 ?c5 ?_)
      case c1 => exact cell_one _ _ _
      case c2 => intro x hx; simp at hx; subst hx; rfl
      case c3 => unfold maxLen; omega
      case c4 => omega
      case c5 => simp; omega
      intro v' w1 hown' hgrow _ hat
      obtain ⟨va, vc, rfl⟩ := own_shape hown'
      have hn := Lib.hid (new_v rfl hr.out hown' hgrow hat)
      have hk := kept_of hr.out.hv hgrow
      have e0 : w1.cell? ⟨w.heap.size + 1, 0, none⟩ = some v := hk.cell (by simp) d0
      have e1 : w1.frozen? ⟨w.heap.size + 1, 0, none⟩ = false := hk.free (by simp) d0 g0
      have hws1 := hk.size
      clear hown' hgrow hat d0 d1 g0 hk
      have hd1 := hn.out.d1
      have hg1 := hn.out.g1
      go_wp2_with (at_builtin; refine wpList_append_own_at _ rfl _ _ 23 rfl (w.heap.size + 2) 3 i0 (.int .i64 0) 1 8 Tryz.underlying23 HI.out.1 HI.out.2.1 HI.out.2.2.1 HI.out.2.2.2 rfl (by decide) _ _ _ rfl (hn.out.hu.alloc _) ⟨w1.heap.size, 0, none⟩ 1 1 [.int .i64 0] rfl rfl ?k1 ?k2 ?k3 ?k4 ?k5 ?_)
      case k1 =>
        have := cell_one (w1.setCell ⟨w.heap.size + 1, 0, none⟩ (.slice va (j + 1) vc)) (.int .i64 0) 3
        rw [World.size_setCell] at this
        exact this
      case k2 => intro x hx; simp at hx; subst hx; rfl
      case k3 => unfold maxLen; omega
      case k4 => omega
      case k5 => simp; omega
      intro u' w2 hown2 hgrow2 _ hat2
      obtain ⟨ua, uc, rfl⟩ := own_shape hown2
      have hn2 := Lib.hid (new_u rfl hn.out hown2 hgrow2 (by simpa using hat2))
      have hk2 := kept_of hn.out.hu hgrow2
      have x0 : w2.cell? ⟨w.heap.size + 1, 1, none⟩ = some u := hk2.cell (by simp) hd1
      have x1 : w2.frozen? ⟨w.heap.size + 1, 1, none⟩ = false := hk2.free (by simp) hd1 hg1
      have hws2 := hk2.size
      rw [World.size_setCell] at hws2
      clear hown2 hgrow2 hat2 hd1 hg1 hk2 e0 e1
      go_wp2
      go_roundw
      case rel => exact ⟨j + 1, by omega, by go_num, by simp; omega, _, _, hn2.out⟩
      case measure => simp [intOf]; omega
    · obtain rfl : j = n := by omega
      obtain ⟨va, vc, rfl⟩ := own_shape hr.out.hv
      obtain ⟨ua, uc, rfl⟩ := own_shape hr.out.hu
      have d0 := hr.out.d0
      have d1 := hr.out.d1
      have c0 := hr.out.c0
      have c1 := hr.out.c1
      have f0 := hr.out.f0
      have f1 := hr.out.f1
      have hb := hr.out.below
      go_wp2
      refine bp_cell ⟨w.heap.size, 0, none⟩ rfl rfl rfl (load_mem _ _ _ _ (by go_cell_look) (by go_cell_look)) ?_
      have hF : Below w.heap.size w ((wr.setCell ⟨w.heap.size, 0, none⟩ (.slice va j vc)).setCell ⟨w.heap.size, 1, none⟩ (.slice ua j uc)) := (hb.setCell (by simp) _).setCell (by simp) _
      obtain ⟨va', vc', e1, s1⟩ := ownsRow_slF (ownsRow_setCell_below (ownsRow_setCell_below hr.out.hv (a := ⟨w.heap.size, 0, none⟩) (by simp) (.slice va j vc)) (a := ⟨w.heap.size, 1, none⟩) (by simp) (.slice ua j uc))
      obtain ⟨ua', uc', e2, s2⟩ := ownsRow_slF (ownsRow_setCell_below (ownsRow_setCell_below hr.out.hu (a := ⟨w.heap.size, 0, none⟩) (by simp) (.slice va j vc)) (a := ⟨w.heap.size, 1, none⟩) (by simp) (.slice ua j uc))
      injection e1 with p1 p2 p3
      injection e2 with q1 q2 q3
      subst p1 p3 q1 q3
      exact ⟨_, _, _, _, rfl, slF_mono (by omega) s1, slF_mono (by omega) s2, hF⟩
end Go.Proofs.YtiebaeaomgpicaaGreat
