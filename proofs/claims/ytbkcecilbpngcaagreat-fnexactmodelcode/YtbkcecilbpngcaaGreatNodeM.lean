/-
  What a node's sort is, in plain words (no Go in sight but for the words of chapter 1).
-/
import Derived.Test.YtbkcecilbpngcaaGreatPaA
import Derived.Test.YtbkcecilbpngcaaGreatCut
import Derived.Test.YtbkcecilbpngcaaGreatOnes
import Derived.Test.YtbkcecilbpngcaaGreatTab
namespace Go.Proofs.YtbkcecilbpngcaaGreat
open Go.RowKit
set_option linter.unusedVariables false

/-- The parts of a node, by their number. -/
def partAt (x : ND) (t : Nat) : Int := if t = 0 then x.a else if t = 1 then x.b else x.c
/-- Part t stands among len nodes, or is 0 where the kind has none. -/
def ptOk (len : Nat) (x : ND) (t : Nat) : Prop := if (t : Int) < pcN x.kind then 0 ≤ partAt x t ∧ partAt x t < len else partAt x t = 0
instance (len : Nat) (x : ND) (t : Nat) : Decidable (ptOk len x t) := by unfold ptOk; infer_instance
def ptsOk (len : Nat) (x : ND) : Prop := ptOk len x 0 ∧ ptOk len x 1 ∧ ptOk len x 2
instance (len : Nat) (x : ND) : Decidable (ptsOk len x) := by unfold ptsOk; infer_instance
/-- The sort of the node at a place. -/
def sortAt (ns : List ND) (i : Int) : Int × Int := ((ns.getD i.toNat default).si, (ns.getD i.toNat default).sw)
/-- The sort of part t; words of width 0 where the kind has none. -/
def srt (ns : List ND) (x : ND) (t : Nat) : Int × Int := if (t : Int) < pcN x.kind then sortAt ns (partAt x t) else (0, 0)
def psOk (ns : List ND) (x : ND) (t : Nat) : Prop := (t : Int) < pcN x.kind → SOK (srt ns x t).1 (srt ns x t).2
instance (ns : List ND) (x : ND) (t : Nat) : Decidable (psOk ns x t) := by unfold psOk; infer_instance
def pssOk (ns : List ND) (x : ND) : Prop := psOk ns x 0 ∧ psOk ns x 1 ∧ psOk ns x 2
instance (ns : List ND) (x : ND) : Decidable (pssOk ns x) := by unfold pssOk; infer_instance
/-- N and M are 0 where the kind has none. -/
def numOk (x : ND) : Prop := (ncN x.kind < 1 → x.n = 0) ∧ (ncN x.kind < 2 → x.m = 0)
instance (x : ND) : Decidable (numOk x) := by unfold numOk; infer_instance
/-- The bytes of a name. -/
def goodB (b : Int) : Bool := lowB b || digB b
def bytesB (s : ByteArray) : Bool := s.data.toList.all (fun c => goodB c.toNat)
def headB (s : ByteArray) : Bool := lowB ((s.data.toList.getD 0 0).toNat)
def nameB (s : ByteArray) : Bool := decide (1 ≤ s.size ∧ s.size ≤ 8) && headB s && bytesB s
def nmOk (x : ND) : Bool := if namedB x.kind then nameB x.name else x.name.data.toList.isEmpty
/-- The width of what a kind makes of words of widths w and u, and whether it does. -/
def kWidth (x : ND) (w u : Int) : Int × Bool :=
  if x.kind = 29 then (joinR w 0 u 0).2 else if x.kind = 30 then (sliceR w 0 x.n x.m).2 else if x.kind = 31 ∨ x.kind = 32 then (growR w 0 x.n false).2
  else if 1 ≤ x.kind ∧ x.kind ≤ 5 then (oneR x.kind w 0).2 else ((twoR x.kind w 0 0).2.1, (twoR x.kind w 0 0).2.2 && decide (w = u))
/-- The sort that a kind makes of the sorts of its parts .. -/
def kSort (x : ND) (a b c : Int × Int) : Int × Int :=
  if namedB x.kind = true ∨ x.kind = 34 then (x.si, x.sw) else if x.kind = 33 then b else if x.kind = 21 then (0, 1) else if x.kind = 37 then (0, a.2)
  else if x.kind = 38 then a else (0, (kWidth x a.2 b.2).1)
/-- .. and whether it makes one. -/
def kOk (x : ND) (a b c : Int × Int) : Prop :=
  if namedB x.kind = true then SOK x.si x.sw else if x.kind = 34 then x.si = 0 ∧ WOk x.sw x.n else if x.kind = 33 then a = (0, 1) ∧ b = c else if x.kind = 21 then a = b
  else if x.kind = 37 then 0 < a.1 ∧ b = (0, a.1) else if x.kind = 38 then 0 < a.1 ∧ b = (0, a.1) ∧ c = (0, a.2)
  else (kWidth x a.2 b.2).2 = true ∧ a.1 = 0 ∧ b.1 = 0
instance (x : ND) (a b c : Int × Int) : Decidable (kOk x a b c) := by unfold kOk; infer_instance
/-- All that NodeSort asks. -/
def nOk (ns : List ND) (x : ND) : Prop :=
  ns.length ≤ 60 ∧ 0 ≤ pcN x.kind ∧ ptsOk ns.length x ∧ pssOk ns x ∧ numOk x ∧ nmOk x = true ∧ kOk x (srt ns x 0) (srt ns x 1) (srt ns x 2)
instance (ns : List ND) (x : ND) : Decidable (nOk ns x) := by unfold nOk; infer_instance
/-- What it tells. -/
def nSort (ns : List ND) (x : ND) : Int × Int := if nOk ns x then kSort x (srt ns x 0) (srt ns x 1) (srt ns x 2) else (0, 0)
end Go.Proofs.YtbkcecilbpngcaaGreat
