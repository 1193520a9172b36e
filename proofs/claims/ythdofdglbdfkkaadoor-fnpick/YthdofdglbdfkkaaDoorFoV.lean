/-
  Codes are laid into a forest; all others; a choice.
-/
import Derived.Test.YthdofdglbdfkkaaDoorRows
import Derived.Test.YthdofdglbdfkkaaDoorG0
import Derived.Test.YthdofdglbdfkkaaDoorBdI
import Derived.Test.YthdofdglbdfkkaaDoorFoR
import Derived.Test.YthdofdglbdfkkaaDoorFoU
import Derived.WalkKit
import Derived.ProofKit
import Derived.OpenShut
import Derived.WalkSpells
import Derived.WalkLawsBesides
import Derived.Outline
import Derived.BigQuiet
import Derived.Handy
import Derived.LoopTactic
import Derived.Deep.Light
import Derived.Deep.RegionWith
import Derived.Deep.RegionHeld3
import Derived.Deep.DeepCutAuto
import Derived.Lib.Hide
import Derived.Maps.OwnRows
import Derived.Deep.Onto
import Derived.OneCell
import Derived.StillTailTactics
import Derived.Deep.AppendLies
import Derived.Deep.RegionLaw
namespace Go.Proofs.YthdofdglbdfkkaaDoor
open Go.ChangeShapes Go.WideShapes Go.ChangeAt Go.RowKit Go.Maps Go.ChangeMaps
set_option linter.unusedVariables false
set_option maxRecDepth 100000

/-- What a call on a forest hands back: the place of a set. -/
def SetQ (vars : Int) (fb mb pb : Nat) (v : Value) (F : List BN) (np g : Nat) (f : Int → Bool) (w : World) (e : Ending) (w' : World) : Prop :=
  ∃ p v' F' np', e = .returned (.int .i64 p) ∧ ForestAt vars fb mb pb v' F' np' w' ∧ (∃ G, F' = F ++ G) ∧ InF F' p ∧ (∀ c, evF F' p c = f c) ∧ FStep fb mb pb v w v' w' ∧ F'.length ≤ F.length + g ∧ np' ≤ np + g
theorem pair_set {vars : Int} {fb mb pb : Nat} {v : Value} {F : List BN} {np : Nat} (hv0 : 0 ≤ vars) (hv13 : vars ≤ 13) (r a b : Int) (w : World) (h : ForestAt vars fb mb pb v F np w) (hr : isRule r) (ha : InF F a) (hb : InF F b) (hs1 : F.length ≤ 900000) (hs2 : np ≤ 900000) :
    Calls Tryd.prog 55 #[.pointer (some ⟨fb, 0, none⟩), .int .i64 r, .int .i64 a, .int .i64 b] w (SetQ vars fb mb pb v F np 8192 (fun c => rl r (evF F a c) (evF F b c)) w) := by
  refine (c_pair hv0 hv13 13 F np v r a b w h hr ha hb (by have h1 := (vAt_nonneg hv0 h.frs ha).1; have h2 := (vAt_nonneg hv0 h.frs hb).1; omega) (by omega) (by omega)).mono ?_
  rintro e w' ⟨p, v', F', np', rfl, hf, ⟨G, hG⟩, hp, hs, hl, hn⟩
  exact ⟨p, v', F', np', rfl, hf, ⟨G, hG⟩, hp.inn, fun c => by rw [hp.ev, hG, evF_app h.frs ha, evF_app h.frs hb], hs, by omega, by omega⟩

set_option maxHeartbeats 4000000 in
theorem c_others {vars : Int} {fb mb pb : Nat} {v : Value} {F : List BN} {np : Nat} (hv0 : 0 ≤ vars) (hv13 : vars ≤ 13) (a : Int) (w : World) (h : ForestAt vars fb mb pb v F np w) (ha : InF F a) (hs1 : F.length ≤ 900000) (hs2 : np ≤ 900000) :
    Calls Tryd.prog 71 #[.pointer (some ⟨fb, 0, none⟩), .int .i64 a] w (SetQ vars fb mb pb v F np 8192 (fun c => !evF F a c) w) := by
  have HP := Go.Lib.hid (pair_set hv0 hv13 6 a 1 w h (.inr (.inr rfl)) ha (InF.yes F) hs1 hs2)
  clear h ha
  go_enter Tryd.func71, Tryd.ntmps71
  go_wp2_with fail
  refine HP.out.mono ?_
  rintro e w' ⟨p, v', F', np', rfl, hq⟩
  have HQ := Go.Lib.hid hq
  clear hq
  go_wp2_with fail
  go_ret
  obtain ⟨h1, h2, h3, h4, h5⟩ := HQ.out
  exact ⟨p, v', F', np', rfl, h1, h2, h3, fun c => by rw [h4]; show rl 6 _ _ = !evF F a c; rw [rl_xor, evF_1]; cases evF F a c <;> rfl, h5⟩

set_option maxHeartbeats 4000000 in
theorem c_choice {vars : Int} {fb mb pb : Nat} {v : Value} {F : List BN} {np : Nat} (hv0 : 0 ≤ vars) (hv13 : vars ≤ 13) (c a b : Int) (w : World) (h : ForestAt vars fb mb pb v F np w) (hc : InF F c) (ha : InF F a) (hb : InF F b) (hs1 : F.length ≤ 800000) (hs2 : np ≤ 800000) :
    Calls Tryd.prog 40 #[.pointer (some ⟨fb, 0, none⟩), .int .i64 c, .int .i64 a, .int .i64 b] w (SetQ vars fb mb pb v F np 24576 (fun x => if evF F c x then evF F a x else evF F b x) w) := by
  have HF := Go.Lib.hid h
  have HC := Go.Lib.hid hc
  have HA := Go.Lib.hid ha
  have HB := Go.Lib.hid hb
  have HP := Go.Lib.hid (pair_set hv0 hv13 6 a b w h (.inr (.inr rfl)) ha hb (by omega) (by omega))
  clear h hc ha hb
  go_enter Tryd.func40, Tryd.ntmps40
  go_wp2_with fail
  refine HP.out.mono ?_
  rintro e w1 ⟨p1, v1, F1, np1, rfl, hf1, ⟨G1, rfl⟩, hi1, he1, hs1', hl1, hn1⟩
  have HF1 := Go.Lib.hid hf1
  have HE1 := Go.Lib.hid he1
  have HS1 := Go.Lib.hid hs1'
  have HI1 := Go.Lib.hid hi1
  have HP1 := Go.Lib.hid (pair_set hv0 hv13 8 c p1 w1 hf1 (.inl rfl) (HC.out.app G1) hi1 (by omega) (by omega))
  clear hf1 he1 hs1' hi1 HP
  go_wp2_with fail
  refine HP1.out.mono ?_
  rintro e w2 ⟨p2, v2, F2, np2, rfl, hf2, ⟨G2, rfl⟩, hi2, he2, hs2', hl2, hn2⟩
  have HF2 := Go.Lib.hid hf2
  have HE2 := Go.Lib.hid he2
  have HS2 := Go.Lib.hid (HS1.out.trans hs2')
  have HP2 := Go.Lib.hid (pair_set hv0 hv13 6 b p2 w2 hf2 (.inr (.inr rfl)) ((HB.out.app G1).app G2) hi2 (by omega) (by omega))
  clear hf2 he2 hs2' hi2 HP1
  go_wp2_with fail
  refine HP2.out.mono ?_
  rintro e w3 ⟨p3, v3, F3, np3, rfl, hf3, ⟨G3, rfl⟩, hi3, he3, hs3, hl3, hn3⟩
  have HQ := Go.Lib.hid (And.intro hf3 (And.intro hi3 (And.intro he3 (HS2.out.trans hs3))))
  clear hf3 hi3 he3 hs3 HP2
  go_wp2_with fail
  go_ret
  obtain ⟨q1, q2, q3, q4⟩ := HQ.out
  refine ⟨p3, v3, _, np3, rfl, q1, ⟨G1 ++ G2 ++ G3, by simp only [List.append_assoc]⟩, q2, fun x => ?_, q4, by omega, by omega⟩
  rw [q3]
  show rl 6 _ _ = if evF F c x then evF F a x else evF F b x
  rw [rl_xor, evF_app HF1.out.frs (HB.out.app G1), evF_app HF.out.frs HB.out, HE2.out]
  show (_ != rl 8 _ _) = _
  rw [rl_and, evF_app HF.out.frs HC.out, HE1.out]
  show (_ != (_ && rl 6 _ _)) = _
  rw [rl_xor]
  cases evF F c x <;> cases evF F a x <;> cases evF F b x <;> rfl

open Classical in
noncomputable def codesF (vars i : Int) (codes : List Int) (c : Int) : Bool := decide (codesT vars i codes c)
open Classical in
theorem codesF_nil (vars i c : Int) : codesF vars i [] c = false := by
  unfold codesF
  exact decide_eq_false (show ¬ codesT vars i [] c by rintro ⟨x, hx, -⟩; simp at hx)
open Classical in
theorem codesF_end {vars i : Int} {codes : List Int} (hi : vars ≤ i) (hc : codes ≠ []) (c : Int) : codesF vars i codes c = true := by
  unfold codesF
  obtain ⟨x, xs, rfl⟩ := List.exists_cons_of_ne_nil hc
  exact decide_eq_true (show codesT vars i (x :: xs) c from ⟨x, List.mem_cons_self .., fun v h1 h2 => by omega⟩)
def bit1 (i x : Int) : Bool := decide (bitN x i = 1)
open Classical in
theorem codesF_step {vars i : Int} {codes : List Int} (hi : i < vars) (c : Int) : codesF vars i codes c = if bitN c i = 1 then codesF vars (i + 1) (codes.filter (fun x => bit1 i x)) c else codesF vars (i + 1) (codes.filter (fun x => !bit1 i x)) c := by
  have h01 : ∀ x : Int, bitN x i = 0 ∨ bitN x i = 1 := fun x => by unfold bitN; omega
  have key : ∀ (b : Bool), (∀ x, bit1 i x = b ↔ bitN x i = bitN c i) → (codesT vars i codes c ↔ codesT vars (i + 1) (codes.filter (fun x => bit1 i x == b)) c) := fun b hb => by
    unfold codesT
    constructor
    · rintro ⟨x, hx, hv⟩
      exact ⟨x, List.mem_filter.2 ⟨hx, by have := (hb x).2 (hv i (Int.le_refl _) hi); simp [this]⟩, fun v h1 h2 => hv v (by omega) h2⟩
    · rintro ⟨x, hx, hv⟩
      obtain ⟨h1, h2⟩ := List.mem_filter.1 hx
      refine ⟨x, h1, fun v h3 h4 => ?_⟩
      by_cases e : v = i
      · subst e; exact (hb x).1 (by simpa using h2)
      · exact hv v (by omega) h4
  unfold codesF
  by_cases hc : bitN c i = 1
  · rw [if_pos hc]
    have := key true (fun x => by unfold bit1; rw [hc]; simp)
    have e : (codes.filter (fun x => bit1 i x == true)) = codes.filter (fun x => bit1 i x) := by congr 1; funext x; cases bit1 i x <;> rfl
    rw [e] at this
    exact decide_eq_decide.2 this
  · rw [if_neg hc]
    have hc0 : bitN c i = 0 := by rcases h01 c with h | h; exact h; exact absurd h hc
    have := key false (fun x => by
      unfold bit1
      rw [hc0]
      rcases h01 x with h | h <;> simp [h])
    have e : (codes.filter (fun x => bit1 i x == false)) = codes.filter (fun x => !bit1 i x) := by congr 1; funext x; cases bit1 i x <;> rfl
    rw [e] at this
    exact decide_eq_decide.2 this
/-- A row of one's own that grows: what else lies is as it was. -/
theorem row_app {base : Nat} {pv pv' : Value} {L : List Int} {p : Int} {w2 w4 : World} {o : Obj} (hb : base ≤ w2.heap.size) (ho : w2.ownsInts base 3 .i64 pv L)
    (hg : (w2.alloc o).grownBy w4 pv.ownBlock) (hown : w4.ownsRow base 3 1 pv' (L.length + 1) (L.map (Value.int .i64) ++ [.int .i64 p])) (hloc : pv'.ownBlock = pv.ownBlock ∨ pv'.ownBlock = some (w2.alloc o).heap.size) (hp : fits p) :
    Below base w2 w4 ∧ w4.ownsInts base 3 .i64 pv' (L ++ [p]) ∧ (∀ (qv : Value) (M : List Int), w2.ownsInts base 3 .i64 qv M → (∀ g, pv.ownBlock = some g → qv.ownBlock ≠ some g) → w4.ownsInts base 3 .i64 qv M ∧ ∀ g, pv'.ownBlock = some g → qv.ownBlock ≠ some g) ∧ ∃ sa sc, pv' = .slice sa (L.length + 1) sc := by
  have hk : ∀ k, k < w2.heap.size → pv.ownBlock ≠ some k → w4.heap[k]? = w2.heap[k]? := fun k hk hn => (hg.block k (Nat.lt_trans hk (alloc_ltS _ _)) (fun e => hn e.symm)).trans (Below.heap_alloc _ _ _ hk)
  have hbs : ∀ k, pv.ownBlock = some k → base ≤ k := fun k hk => (ho.1.lt k hk).1
  refine ⟨⟨hg.os, hg.tape, hg.output, Nat.le_trans (Nat.le_of_lt (alloc_ltS w2 o)) hg.size, fun k h1 => hk k (by omega) (fun e => by have := hbs k e; omega)⟩, ⟨?_, ?_⟩, fun qv M hq hne => ⟨own_block hq (fun g _ hl hg' => hk g hl (fun e => hne g e hg')), fun g hg' e => ?_⟩, ?_⟩
  · rw [List.length_append, List.map_append]
    exact hown
  · intro z hz
    rw [List.mem_append] at hz
    rcases hz with hz | hz
    · exact ho.2 z hz
    · simp at hz; subst hz; exact hp
  · rcases hloc with h1 | h1
    · exact hne g (by rw [← h1, hg']) e
    · rw [hg'] at h1
      injection h1 with h1
      have h2 := (hq.1.lt g e).2
      have h3 := alloc_ltS w2 o
      omega
  · obtain ⟨-, h1⟩ := hown
    rcases h1 with ⟨-, h2⟩ | ⟨g, cap, cur, h2, -⟩
    · omega
    · exact ⟨_, cap, h2⟩

def LayCQ (vars : Int) (fb mb pb : Nat) (v : Value) (F : List BN) (np n : Nat) (i : Int) (codes : List Int) (w : World) (e : Ending) (w' : World) : Prop :=
  ∃ p v' F', e = .returned (.int .i64 p) ∧ ForestAt vars fb mb pb v' F' np w' ∧ (∃ G, F' = F ++ G) ∧ InF F' p ∧ (∀ c, evF F' p c = codesF vars i codes c) ∧ i ≤ vAt vars F' p ∧ FStep fb mb pb v w v' w' ∧ F'.length + 1 ≤ F.length + 2 ^ n

set_option maxHeartbeats 16000000 in
theorem c_layCodes {vars : Int} {fb mb pb : Nat} (hv13 : vars ≤ 13) : ∀ (n : Nat) (F : List BN) (np : Nat) (v : Value) (i : Int) (a : Option Addr) (len cap : Nat) (codes : List Int) (w : World), ForestAt vars fb mb pb v F np w → 0 ≤ i → i + n = vars → IntsAt w.heap.size w a len cap codes → len ≤ 256 → (∀ x ∈ codes, 0 ≤ x) → F.length + 2 ^ n ≤ 1000000 →
    Calls Tryd.prog 64 #[.pointer (some ⟨fb, 0, none⟩), .int .i64 vars, .int .i64 i, .slice a len cap] w (LayCQ vars fb mb pb v F np n i codes w) := by
  intro n
  induction n with
  | zero =>
    intro F np v i a len cap codes w h hi hin hc hl hx hs
    have HF := Go.Lib.hid h
    obtain rfl : i = vars := by omega
    have hcl : codes.length = len := hc.1
    have e1 : (i == i) = true := by simp
    by_cases h0 : len = 0
    · subst h0
      have HC := Go.Lib.hid (List.length_eq_zero_iff.1 hcl)
      clear h hc hx hcl
      go_enter Tryd.func64, Tryd.ntmps64
      go_wp2_with fail
      go_ret
      exact ⟨0, v, F, rfl, HF.out, ⟨[], by simp⟩, InF.no F, fun c => by rw [HC.out, codesF_nil, evF_0], by rw [vAt_small (by decide)]; omega, FStep.refl _ _ _ _ _, by omega⟩
    · have h0i : ¬ (len : Int) = 0 := by omega
      have h0b : ((len : Int) == 0) = false := by simp; omega
      have hmin : ¬ (len : Int) < 1 := by omega
      have hmin2 : (1 : Int) ≤ len := by omega
      have HC := Go.Lib.hid (show codes ≠ [] from fun e => by subst e; simp at hcl; omega)
      clear h hc hx hcl
      go_enter Tryd.func64, Tryd.ntmps64
      go_wp2_with fail
      all_goals
        go_ret
        exact ⟨1, v, F, ret_int (by omega), HF.out, ⟨[], by simp⟩, InF.yes F, fun c => by rw [codesF_end (Int.le_refl _) HC.out, evF_1], by rw [vAt_small (by decide)]; omega, FStep.refl _ _ _ _ _, by omega⟩
  | succ n ih =>
    intro F np v i a len cap codes w h hi hin hc hl hx hs
    have HF := Go.Lib.hid h
    have HV13 := Go.Lib.hid hv13
    have hcl : codes.length = len := hc.1
    have hp2 : 2 ^ (n + 1) = 2 * 2 ^ n := by rw [Nat.pow_succ]; omega
    by_cases h0 : len = 0
    · subst h0
      have HC := Go.Lib.hid (List.length_eq_zero_iff.1 hcl)
      have HPW := Go.Lib.hid (Nat.two_pow_pos (n + 1))
      clear h hc hx hcl ih hp2
      go_enter Tryd.func64, Tryd.ntmps64
      go_wp2_with fail
      go_ret
      exact ⟨0, v, F, rfl, HF.out, ⟨[], by simp⟩, InF.no F, fun c => by rw [HC.out, codesF_nil, evF_0], by rw [vAt_small (by decide)]; omega, FStep.refl _ _ _ _ _, by have := HPW.out; omega⟩
    have h0i : ¬ (len : Int) = 0 := by omega
    have h0b : ((len : Int) == 0) = false := by simp; omega
    have hiv : ¬ i = vars := by omega
    have hivb : (i == vars) = false := by simp [hiv]
    have hi12 : i < 13 := by omega
    have hi32 : (i : Int) < 64 := by omega
    have HIV := Go.Lib.hid (show i < vars by omega)
    have HIN := Go.Lib.hid hin
    have HC := Go.Lib.hid hc
    have HCL := Go.Lib.hid hcl
    have HX := Go.Lib.hid hx
    have HPW := Go.Lib.hid hp2
    have HS := Go.Lib.hid hs
    have HIH := Go.Lib.hid ih
    have HI0 := Go.Lib.hid hi
    obtain ⟨i1, hi1, hz01, hz11, hz21⟩ := info_parts intInfo
    have HI1 := Go.Lib.hid hi1
    have HZ01 := Go.Lib.hid hz01
    have HZ11 := Go.Lib.hid hz11
    have HZ21 := Go.Lib.hid hz21
    clear h hc hx hcl ih hp2 hs hi1 hz01 hz11 hz21 hin h0
    go_enter Tryd.func64, Tryd.ntmps64
    go_wp2_with fail
    go_loopw [9, 10, 26] (fun s0 s1 q wr => ∃ (k : Nat) (a0 a1 : Option Addr) (c0 c1 : Nat), k ≤ len ∧ q = .int .i64 k ∧ s0 = .slice a0 ((codes.take k).filter (fun x => !bit1 i x)).length c0 ∧ s1 = .slice a1 ((codes.take k).filter (fun x => bit1 i x)).length c1 ∧
      wr.ownsInts w.heap.size 3 .i64 (.slice a0 ((codes.take k).filter (fun x => !bit1 i x)).length c0) ((codes.take k).filter (fun x => !bit1 i x)) ∧ wr.ownsInts w.heap.size 3 .i64 (.slice a1 ((codes.take k).filter (fun x => bit1 i x)).length c1) ((codes.take k).filter (fun x => bit1 i x)) ∧
      (∀ g, (Value.slice a0 ((codes.take k).filter (fun x => !bit1 i x)).length c0).ownBlock = some g → (Value.slice a1 ((codes.take k).filter (fun x => bit1 i x)).length c1).ownBlock ≠ some g) ∧ Below w.heap.size w wr) (fun _ _ q _ => len - (intOf q).toNat)
    case atStart => exact ⟨0, none, none, 0, 0, by omega, rfl, rfl, rfl, World.ownsInts_nil _ _ _ _, World.ownsInts_nil _ _ _ _, fun g h => by simp [Value.ownBlock] at h, Below.refl _ _⟩
    case round =>
      obtain ⟨k, a0, a1, c0, c1, hk, rfl, rfl, rfl, ho0, ho1, hap, hb⟩ := hrel
      have HO0 := Go.Lib.hid ho0
      have HO1 := Go.Lib.hid ho1
      have HAP := Go.Lib.hid hap
      have HB := Go.Lib.hid hb
      clear ho0 ho1 hap hb
      by_cases hkl : k < len
      · have hki : (k : Int) < len := by omega
        obtain ⟨x, b, off, hxx, -, rfl, hbB, d0⟩ := int_at (HC.out.below HB.out) hkl
        have hkc : k < codes.length := by have := HCL.out; omega
        have hxk : codes[k] = x := by rw [← hxx]; simp [List.getD, hkc]
        have HTK := Go.Lib.hid (show codes.take (k + 1) = codes.take k ++ [x] by rw [List.take_succ_eq_append_getElem hkc, hxk])
        have hx0 : 0 ≤ x := HX.out x (by rw [← hxk]; exact List.getElem_mem ..)
        have HFX := Go.Lib.hid (HC.out.2.2.2.1 x (by rw [← hxk]; exact List.getElem_mem ..))
        have hl0 : ((codes.take k).filter (fun x => !bit1 i x)).length ≤ k := Nat.le_trans (List.length_filter_le _ _) (by rw [List.length_take]; omega)
        have hl1 : ((codes.take k).filter (fun x => bit1 i x)).length ≤ k := Nat.le_trans (List.length_filter_le _ _) (by rw [List.length_take]; omega)
        have hone := i64_one (x / 2 ^ i.toNat)
        clear hxx hxk hkc
        by_cases hbt : bitN x i = 1
        · have HE1 := Go.Lib.hid (show (codes.take k ++ [x]).filter (fun x => bit1 i x) = (codes.take k).filter (fun x => bit1 i x) ++ [x] by rw [List.filter_append]; simp [bit1, hbt])
          have HE0 := Go.Lib.hid (show (codes.take k ++ [x]).filter (fun x => !bit1 i x) = (codes.take k).filter (fun x => !bit1 i x) by rw [List.filter_append]; simp [bit1, hbt])
          have hfin : x / 2 ^ i.toNat % 2 = 1 := hbt
          rw [hfin] at hone
          clear hbt hfin
          obtain ⟨l1, hl1e⟩ : ∃ l, (codes.take k).filter (fun x => bit1 i x) = l := ⟨_, rfl⟩
          obtain ⟨l0, hl0e⟩ : ∃ l, (codes.take k).filter (fun x => !bit1 i x) = l := ⟨_, rfl⟩
          rw [hl1e] at hl1 HO1 HAP HE1 ⊢
          rw [hl0e] at hl0 HO0 HAP HE0 ⊢
          clear hl1e hl0e
          go_wp2_with (first | (at_builtin; go_loud (refine wpList_append_own_at _ rfl _ _ 43 rfl w.heap.size 3 i1 (.int .i64 0) 1 8 Tryd.underlying43 HI1.out HZ01.out HZ11.out HZ21.out rfl (by decide) (.slice a1 l1.length c1) l1.length _ rfl (HO1.out.1.alloc _) ⟨wr.heap.size, 0, none⟩ 1 1 [.int .i64 x] rfl rfl (cell_one_new _ _ _) (ints_oneCell .i64 [x]) (by unfold maxLen; omega) (by omega) (by simp; have := HB.out.size; omega) ?_; intro v' w4 hown' hgrow' hnil hloc); have HQ := Go.Lib.hid (row_app HB.out.size HO1.out hgrow' hown' hloc HFX.out); clear hown' hgrow' hnil hloc; obtain ⟨a1', c1', hv'⟩ := HQ.out.2.2.2; subst hv') | go_in)
          go_roundw
          case rel =>
            obtain ⟨q1, q2, q3, -⟩ := HQ.out
            obtain ⟨q4, q5⟩ := q3 _ _ HO0.out (fun g h1 h2 => HAP.out g h2 h1)
            refine ⟨k + 1, a0, a1', c0, c1', by omega, by go_num, ?_, ?_, ?_, ?_, ?_, HB.out.trans q1⟩
            · rw [HTK.out, HE0.out]
            · rw [HTK.out, HE1.out, List.length_append]; rfl
            · rw [HTK.out, HE0.out]; exact q4
            · rw [HTK.out, HE1.out, List.length_append]; exact q2
            · rw [HTK.out, HE0.out, HE1.out, List.length_append]; exact fun g h1 h2 => q5 g h2 h1
          case measure => simp [intOf] <;> omega
        · have HE1 := Go.Lib.hid (show (codes.take k ++ [x]).filter (fun x => bit1 i x) = (codes.take k).filter (fun x => bit1 i x) by rw [List.filter_append]; simp [bit1, hbt])
          have HE0 := Go.Lib.hid (show (codes.take k ++ [x]).filter (fun x => !bit1 i x) = (codes.take k).filter (fun x => !bit1 i x) ++ [x] by rw [List.filter_append]; simp [bit1, hbt])
          have hfin : x / 2 ^ i.toNat % 2 = 0 := by have : ¬ x / 2 ^ i.toNat % 2 = 1 := hbt; omega
          rw [hfin] at hone
          clear hbt hfin
          obtain ⟨l1, hl1e⟩ : ∃ l, (codes.take k).filter (fun x => bit1 i x) = l := ⟨_, rfl⟩
          obtain ⟨l0, hl0e⟩ : ∃ l, (codes.take k).filter (fun x => !bit1 i x) = l := ⟨_, rfl⟩
          rw [hl1e] at hl1 HO1 HAP HE1 ⊢
          rw [hl0e] at hl0 HO0 HAP HE0 ⊢
          clear hl1e hl0e
          go_wp2_with (first | (at_builtin; go_loud (refine wpList_append_own_at _ rfl _ _ 43 rfl w.heap.size 3 i1 (.int .i64 0) 1 8 Tryd.underlying43 HI1.out HZ01.out HZ11.out HZ21.out rfl (by decide) (.slice a0 l0.length c0) l0.length _ rfl (HO0.out.1.alloc _) ⟨wr.heap.size, 0, none⟩ 1 1 [.int .i64 x] rfl rfl (cell_one_new _ _ _) (ints_oneCell .i64 [x]) (by unfold maxLen; omega) (by omega) (by simp; have := HB.out.size; omega) ?_; intro v' w4 hown' hgrow' hnil hloc); have HQ := Go.Lib.hid (row_app HB.out.size HO0.out hgrow' hown' hloc HFX.out); clear hown' hgrow' hnil hloc; obtain ⟨a0', c0', hv'⟩ := HQ.out.2.2.2; subst hv') | go_in)
          go_roundw
          case rel =>
            obtain ⟨q1, q2, q3, -⟩ := HQ.out
            obtain ⟨q4, q5⟩ := q3 _ _ HO1.out HAP.out
            refine ⟨k + 1, a0', a1, c0', c1, by omega, by go_num, ?_, ?_, ?_, ?_, ?_, HB.out.trans q1⟩
            · rw [HTK.out, HE0.out, List.length_append]; rfl
            · rw [HTK.out, HE1.out]
            · rw [HTK.out, HE0.out, List.length_append]; exact q2
            · rw [HTK.out, HE1.out]; exact q4
            · rw [HTK.out, HE0.out, HE1.out, List.length_append]; exact q5
          case measure => simp [intOf] <;> omega
      · have hki : ¬ (k : Int) < len := by omega
        obtain rfl : k = len := by omega
        have htk : codes.take k = codes := List.take_of_length_le (by have := HCL.out; omega)
        rw [htk] at HO0 HO1 HAP ⊢
        have HF1 := Go.Lib.hid (HF.out.below HB.out)
        have HS1 := Go.Lib.hid (FStep.of_below (fb := fb) (mb := mb) (pb := pb) (v := v) HB.out)
        have hm0 : (codes.filter (fun x => !bit1 i x)).length ≤ k := Nat.le_trans (List.length_filter_le _ _) (by have := HCL.out; omega)
        have hm1 : (codes.filter (fun x => bit1 i x)).length ≤ k := Nat.le_trans (List.length_filter_le _ _) (by have := HCL.out; omega)
        have HM := Go.Lib.hid (And.intro hm0 hm1)
        clear htk hm0 hm1
        go_wp2_with fail
        refine (HIH.out F np v (i + 1) a0 _ c0 (codes.filter (fun x => !bit1 i x)) wr HF1.out (by omega) (by have := HIN.out; omega) (own_ints HO0.out rfl) (by have := HM.out.1; omega) (fun x hx => HX.out x (List.mem_filter.1 hx).1) (by have h1 := HPW.out; have h2 := HS.out; omega)).mono ?_
        rintro e w1 ⟨pl, v1, F1, rfl, hf1, hg1, hi1', he1, hl1, hs1, hn1⟩
        have HF2 := Go.Lib.hid hf1
        have HQ1 := Go.Lib.hid (And.intro hg1 (And.intro hi1' (And.intro he1 (And.intro hl1 hn1))))
        have HS2 := Go.Lib.hid (HS1.out.trans hs1)
        have HO2 := Go.Lib.hid (ints_keep HF1.out HO1.out hs1)
        clear hf1 hg1 hi1' he1 hl1 hs1 hn1
        go_wp2_with fail
        refine (HIH.out F1 np v1 (i + 1) a1 _ c1 (codes.filter (fun x => bit1 i x)) w1 HF2.out (by omega) (by have := HIN.out; omega) (own_ints HO2.out rfl) (by have := HM.out.2; omega) (fun x hx => HX.out x (List.mem_filter.1 hx).1) (by have h1 := HPW.out; have h2 := HS.out; have h3 := HQ1.out.2.2.2.2; omega)).mono ?_
        rintro e w2 ⟨ph, v2, F2, rfl, hf2, hg2, hi2', he2, hl2, hs2, hn2⟩
        have HF3 := Go.Lib.hid hf2
        have HQ2 := Go.Lib.hid (And.intro hg2 (And.intro hi2' (And.intro he2 (And.intro hl2 hn2))))
        have HS3 := Go.Lib.hid (HS2.out.trans hs2)
        clear hf2 hg2 hi2' he2 hl2 hs2 hn2
        go_wp2_with fail
        obtain ⟨⟨G1, eG1⟩, hi1', he1, hl1, hn1⟩ := HQ1.out
        obtain ⟨⟨G2, eG2⟩, hi2', he2, hl2, hn2⟩ := HQ2.out
        refine (c_put i pl ph w2 HF3.out HV13.out ⟨HI0.out, HIV.out⟩ (by rw [eG2]; exact hi1'.app G2) hi2' (by rw [eG2, vAt_app hi1'.2]; omega) (by omega) (by have h1 := HPW.out; have h2 := HS.out; omega)).mono ?_
        rintro e w3 ⟨p, v3, F3, rfl, hf3, hp3, hs3⟩
        have HQ3 := Go.Lib.hid (And.intro hf3 (And.intro hp3 (HS3.out.trans hs3)))
        clear hf3 hp3 hs3 eG1 eG2 hi1' he1 hl1 hn1 hi2' he2 hl2 hn2
        go_wp2_with fail
        go_ret
        obtain ⟨hf3, hp3, hs3⟩ := HQ3.out
        obtain ⟨⟨G1, eG1⟩, hi1', he1, hl1, hn1⟩ := HQ1.out
        obtain ⟨⟨G2, eG2⟩, hi2', he2, hl2, hn2⟩ := HQ2.out
        obtain ⟨G3, eG3, hg3⟩ := hp3.ext
        refine ⟨p, v3, F3, rfl, hf3, ⟨G1 ++ G2 ++ G3, by rw [eG3, eG2, eG1]; simp only [List.append_assoc]⟩, hp3.inn, fun c => ?_, hp3.lev, hs3, by rw [eG3, List.length_append]; have h1 := HPW.out; omega⟩
        rw [hp3.ev, codesF_step HIV.out, he2, eG2, evF_app HF2.out.frs hi1', he1]
end Go.Proofs.YthdofdglbdfkkaaDoor
