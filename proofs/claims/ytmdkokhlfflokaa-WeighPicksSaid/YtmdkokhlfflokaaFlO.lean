/- Arguments that are slices of floats, and of integers: what comes in. -/
import Derived.Test.YtmdkokhlfflokaaGen
import Derived.Laws.Cover2
namespace Go.Proofs.Ytmdkokhlfflokaa
open Go.ChangeShapes Go.WideShapes Go.ChangeAt Go.RowKit
open Gen
/-- a float's word as an element -/
def repFl : Rep Nat := rep1 (.float .f64)
def FlWf (x : Nat) : Prop := x < 18446744073709551616
theorem wf_fl {x : Nat} (h : (Lit.float .f64 x).wf = true) : FlWf x := by
  have : x < 2 ^ 64 := by simpa [Lit.wf] using h
  unfold FlWf; omega
theorem at_fl {Q : Nat → Prop} {w : World} {b o : Nat} {z : Nat} (h : At repFl Q w b o z) : w.cell? ⟨b, o, none⟩ = some (.float .f64 z) := by
  obtain ⟨cs, h1, h2⟩ := h
  have h1 : cs = [.float .f64 z] := h1
  subst h1
  exact h2 0 _ rfl
theorem fl_at {Q : Nat → Prop} {w : World} {p : Option Addr} {n : Nat} {zs : List Nat} (S : Vs repFl Q w p n zs) {k : Nat} (hk : k < n) : ∃ b o z, p = some ⟨b, o, none⟩ ∧ zs[k]? = some z ∧ Q b ∧ w.cell? ⟨b, o + k, none⟩ = some (.float .f64 z) := by
  obtain ⟨b, o, z, e, ht, hq, h⟩ := vs_at S hk
  have h := at_fl h
  rw [show repFl.k = 1 from rfl, Nat.mul_one] at h
  exact ⟨b, o, z, e, ht, hq, h⟩
section
variable {H : Type} {enc : TypeId × Value → H} {w : World} {base : Nat} {spare : Nat → Bool} {held : Bool}
theorem trod_fl {P : Program} {t : TypeId} {fuel : Nat} {cs : List Value} {x : DataW H × List MemPlace} (ht : P.underlying t = some (.float .f64)) (h : DataW.trod enc P w base spare held fuel t cs = some x) : ∃ n, cs = [.float .f64 n] ∧ (Lit.float .f64 n).wf = true := by
  cases fuel with
  | zero => simp [DataW.trod] at h
  | succ n =>
    unfold DataW.trod at h
    rw [ht] at h
    split at h <;> simp_all
theorem opens_fl {P : Program} {t : TypeId} (ht : P.underlying t = some (.float .f64)) : Opens repFl FlWf enc P w base spare held t := by
  intro fuel cs x h
  obtain ⟨n, h1, h2⟩ := trod_fl ht h
  exact ⟨n, h1, wf_fl h2⟩
theorem open_vfloats {q : Reach} {b0 : Nat} {v : Value} {d : DataW H} {p : List MemPlace} (_ : Value.okWide Try.prog w q b0 22 v) (h : DataW.Trod enc Try.prog w base spare held 22 v d p) :
    ∃ (a : Option Addr) (n c : Nat) (zs : List Nat), v.cells.toList = [.slice a n c] ∧ IsVs repFl FlWf w a n c zs := by
  obtain ⟨fuel, hf⟩ := h
  exact opens_slice (r := repFl) Try.underlying22 (by kernel_rfl) (opens_fl Try.underlying23) _ _ _ hf
theorem open_vints {q : Reach} {b0 : Nat} {v : Value} {d : DataW H} {p : List MemPlace} (_ : Value.okWide Try.prog w q b0 33 v) (h : DataW.Trod enc Try.prog w base spare held 33 v d p) :
    ∃ (a : Option Addr) (n c : Nat) (zs : List Int), v.cells.toList = [.slice a n c] ∧ IsVs repInt (fun z => (Lit.int .i64 z).wf = true) w a n c zs := by
  obtain ⟨fuel, hf⟩ := h
  exact opens_slice (r := repInt) Try.underlying33 (by kernel_rfl) (opens_int Try.underlying3) _ _ _ hf
end
end Go.Proofs.Ytmdkokhlfflokaa
