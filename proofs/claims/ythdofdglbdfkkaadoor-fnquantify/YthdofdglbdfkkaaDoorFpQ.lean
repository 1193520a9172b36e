/-
  Mathematics of leaving a bit open.
-/
import Derived.Test.YthdofdglbdfkkaaDoorRows
import Derived.Test.YthdofdglbdfkkaaDoorFpA
import Derived.Test.YthdofdglbdfkkaaDoorFpB
import Derived.Test.YthdofdglbdfkkaaDoorFpE
import Derived.Test.YthdofdglbdfkkaaDoorFoI
import Derived.Test.YthdofdglbdfkkaaDoorFoE
import Derived.Test.YthdofdglbdfkkaaDoorBdU
namespace Go.Proofs.YthdofdglbdfkkaaDoor
open Go.ChangeShapes Go.WideShapes Go.ChangeAt Go.RowKit Go.Maps Go.ChangeMaps
set_option linter.unusedVariables false
set_option maxRecDepth 100000

/-- What a bit set answers. -/
theorem fix_is {V R i : Int} {m : List BN} {yes : Bool} (ho : OkB V m R) (hi : 0 ≤ i ∧ i < V) {V' R' : Int} {ms : List BN} {b : Bool} (h : CondR (OkB V m R ∧ 0 ≤ i ∧ i < V) V (fun c => evF m R (fixc i yes c)) V' ms R' b) :
    V = V' ∧ b = true ∧ AnsR V (fun c => evF m R (fixc i yes c)) V ms R' true ∧ OkB V ms R' ∧ (∀ c, 0 ≤ c → c < 2 ^ V.toNat → evF ms R' c = evF m R (fixc i yes c)) ∧ ¬ AskedP i ms := by
  rcases h with ⟨-, h⟩ | ⟨h, -⟩
  · obtain ⟨hb, hV, hO, hE⟩ := fix_ans ho h
    subst hb
    have e : V = V' := hV.symm
    subst e
    refine ⟨rfl, rfl, h, hO, hE, h.unused ho.hv hi (fun c _ _ => ?_)⟩
    show evF m R (fixc i yes (fixc i true c)) = _
    rw [fix_fix hi.1]
  · exact absurd ⟨ho, hi⟩ h
/-- What is left open is the union, and does not hang on the bit. -/
theorem some_is {V R i : Int} {m : List BN} (ho : OkB V m R) (hi : 0 ≤ i ∧ i < V) {ms : List BN} {Rs : Int} (h : AnsR V (fun c => evF m R (fixc i false c) || evF m R (fixc i true c)) V ms Rs true) : ¬ AskedP i ms :=
  h.unused ho.hv hi (fun c _ _ => by
    show (evF m R (fixc i false (fixc i true c)) || evF m R (fixc i true (fixc i true c))) = _
    rw [fix_fix hi.1, fix_fix hi.1])
theorem or_is {V R i : Int} {m ml mh ms mo : List BN} {Rl Rh Rs Ro Vo : Int} {b : Bool} (ho : OkB V m R) (hs : AnsR V (fun c => evF m R (fixc i false c) || evF m R (fixc i true c)) V ms Rs true)
    (hl : ∀ c, 0 ≤ c → c < 2 ^ V.toNat → evF ml Rl c = evF m R (fixc i false c)) (hh : ∀ c, 0 ≤ c → c < 2 ^ V.toNat → evF mh Rh c = evF m R (fixc i true c)) (hp : PairP V ml Rl V mh Rh)
    (h : CondR (PairP V ml Rl V mh Rh) V (fun c => rl 14 (evF ml Rl c) (evF mh Rh c)) Vo mo Ro b) : V = Vo ∧ ms = mo ∧ Rs = Ro ∧ true = b := by
  rcases h with ⟨-, h⟩ | ⟨h, -⟩
  · exact hs.inj ho.hv.1 (h.congr (fun c h0 h1 => by rw [rl_or, hl c h0 h1, hh c h0 h1]))
  · exact absurd hp h
theorem use_same {V R i : Int} {m ml mh : List BN} {Rl Rh : Int} (ho : OkB V m R) (hi : 0 ≤ i ∧ i < V) (al : AnsR V (fun c => evF m R (fixc i false c)) V ml Rl true) (ah : AnsR V (fun c => evF m R (fixc i true c)) V mh Rh true)
    (hl : ∀ c, 0 ≤ c → c < 2 ^ V.toNat → evF ml Rl c = evF m R (fixc i false c)) (hh : ∀ c, 0 ≤ c → c < 2 ^ V.toNat → evF mh Rh c = evF m R (fixc i true c)) {p q : Bool} (hp : p = true ↔ UseP V R i m) (hq : q = true ↔ SameB V ml Rl V mh Rh) : (p == !q) = true := by
  have h1 : UseP V R i m ↔ AskedP i m := ⟨fun h => h.2, fun h => ⟨ho, h⟩⟩
  have h2 : SameB V ml Rl V mh Rh ↔ ∀ c, 0 ≤ c → c < 2 ^ V.toNat → evF m R (fixc i false c) = evF m R (fixc i true c) := by
    constructor
    · rintro ⟨-, e1, e2⟩ c h0 h1
      rw [← hl c h0 h1, ← hh c h0 h1, e1, e2]
    · intro h
      exact al.same ho.hv.1 ah h
  have h3 : p = true ↔ ¬ q = true := by rw [hp, h1, uses_iff ho hi, hq, h2]
  clear hp hq h1 h2
  cases p <;> cases q
  · exact absurd (h3.2 (by decide)) (by decide)
  · rfl
  · rfl
  · exact absurd rfl (h3.1 rfl)
end Go.Proofs.YthdofdglbdfkkaaDoor
