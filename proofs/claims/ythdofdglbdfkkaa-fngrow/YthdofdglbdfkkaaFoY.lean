/-
  One diagram through the door.
-/
import Derived.Test.YthdofdglbdfkkaaRows
import Derived.Test.YthdofdglbdfkkaaFoX
import Derived.Test.YthdofdglbdfkkaaBdY
import Derived.Test.YthdofdglbdfkkaaBdN
import Derived.WalkKit
import Derived.ProofKit
import Derived.OpenShut
import Derived.WalkSpells
import Derived.WalkLawsBesides
import Derived.Outline
import Derived.BigQuiet
import Derived.Handy
import Derived.LoopTactic
import Derived.Deep.Light
import Derived.Deep.RegionWith
import Derived.Deep.RegionHeld3
import Derived.Deep.DeepCutAuto
import Derived.Lib.Hide
import Derived.Maps.OwnRows
import Derived.Deep.Onto
import Derived.OneCell
import Derived.StillTailTactics
import Derived.Deep.AppendLies
import Derived.Deep.RegionLaw
import Derived.Defers
import Derived.Recover
namespace Go.Proofs.Ythdofdglbdfkkaa
open Go.ChangeShapes Go.WideShapes Go.ChangeAt Go.RowKit Go.Maps Go.ChangeMaps
set_option linter.unusedVariables false
set_option maxRecDepth 100000

/-- The diagram of a set, or nothing if it is too large. -/
def AnsR (vars : Int) (f : Int → Bool) (V : Int) (ms : List BN) (R : Int) (b : Bool) : Prop :=
  ∃ t : DT, t.Red vars 0 ∧ (∀ c, 0 ≤ c → c < 2 ^ vars.toNat → t.ev c = f c) ∧ ∃ ns p, Adds t [] ns p ∧ ((ns.length ≤ 600 ∧ V = vars ∧ ms = ns ∧ R = p ∧ b = true) ∨ (600 < ns.length ∧ V = 0 ∧ ms = [] ∧ R = 0 ∧ b = false))
theorem red_same {vars : Int} {t s : DT} {f : Int → Bool} (hv : 0 ≤ vars) (ht : t.Red vars 0) (hs : s.Red vars 0) (h1 : ∀ c, 0 ≤ c → c < 2 ^ vars.toNat → t.ev c = f c) (h2 : ∀ c, 0 ≤ c → c < 2 ^ vars.toNat → s.ev c = f c) : t = s := by
  have e1 := canon_uniq (vars := vars) (T := f) vars.toNat 0 0 t (by omega) (by omega) ht (by omega) (by decide) (fun c a b _ => h1 c a b)
  have e2 := canon_uniq (vars := vars) (T := f) vars.toNat 0 0 s (by omega) (by omega) hs (by omega) (by decide) (fun c a b _ => h2 c a b)
  rw [← e1, ← e2]
theorem AnsR.inj {vars : Int} {f : Int → Bool} (hv : 0 ≤ vars) {V V' : Int} {ms ms' : List BN} {R R' : Int} {b b' : Bool} (h : AnsR vars f V ms R b) (k : AnsR vars f V' ms' R' b') : V = V' ∧ ms = ms' ∧ R = R' ∧ b = b' := by
  obtain ⟨t, h1, h2, ns, p, h3, h4⟩ := h
  obtain ⟨s, k1, k2, ns', p', k3, k4⟩ := k
  obtain rfl := red_same hv h1 k1 h2 k2
  obtain ⟨rfl, rfl⟩ := h3.inj (Int.le_refl 0) h1 (Frs.nil vars) k3
  rcases h4 with ⟨a1, rfl, rfl, rfl, rfl⟩ | ⟨a1, rfl, rfl, rfl, rfl⟩ <;> rcases k4 with ⟨b1, rfl, rfl, rfl, rfl⟩ | ⟨b1, rfl, rfl, rfl, rfl⟩
  · exact ⟨rfl, rfl, rfl, rfl⟩
  · omega
  · omega
  · exact ⟨rfl, rfl, rfl, rfl⟩
theorem AnsR.len {vars : Int} {f : Int → Bool} {V : Int} {ms : List BN} {R : Int} {b : Bool} (h : AnsR vars f V ms R b) : ms.length ≤ 600 := by
  obtain ⟨t, h1, h2, ns, p, h3, h4⟩ := h
  rcases h4 with ⟨a1, -, rfl, -, -⟩ | ⟨-, -, rfl, -, -⟩
  · exact a1
  · decide
theorem AnsR.congr {vars : Int} {f g : Int → Bool} (hfg : ∀ c, 0 ≤ c → c < 2 ^ vars.toNat → f c = g c) {V : Int} {ms : List BN} {R : Int} {b : Bool} (h : AnsR vars f V ms R b) : AnsR vars g V ms R b := by
  obtain ⟨t, h1, h2, h3⟩ := h
  exact ⟨t, h1, fun c a b => (h2 c a b).trans (hfg c a b), h3⟩

end Go.Proofs.Ythdofdglbdfkkaa
