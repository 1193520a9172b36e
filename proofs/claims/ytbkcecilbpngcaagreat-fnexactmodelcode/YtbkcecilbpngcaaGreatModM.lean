
/-
  What a node is made of: the program.
-/
import Derived.Test.YtbkcecilbpngcaaGreatRows
import Derived.Test.YtbkcecilbpngcaaGreatG0
import Derived.Test.YtbkcecilbpngcaaGreatPaA
import Derived.Test.YtbkcecilbpngcaaGreatNodeM
import Derived.Test.YtbkcecilbpngcaaGreatNames
import Derived.Test.YtbkcecilbpngcaaGreatNodeL
import Derived.Test.YtbkcecilbpngcaaGreatResP
import Derived.Test.YtbkcecilbpngcaaGreatNSortI
import Derived.Test.YtbkcecilbpngcaaGreatKSortP
import Derived.Test.YtbkcecilbpngcaaGreatPaD
import Derived.Test.YtbkcecilbpngcaaGreatModD
import Derived.Test.YtbkcecilbpngcaaGreatModA
import Derived.Test.YtbkcecilbpngcaaGreatModB
import Derived.Test.YtbkcecilbpngcaaGreatModC
import Derived.Test.YtbkcecilbpngcaaGreatModE
import Derived.Test.YtbkcecilbpngcaaGreatModF
import Derived.Test.YtbkcecilbpngcaaGreatModG
import Derived.Test.YtbkcecilbpngcaaGreatModH
import Derived.Test.YtbkcecilbpngcaaGreatModI
import Derived.Test.YtbkcecilbpngcaaGreatMapB
import Derived.Test.YtbkcecilbpngcaaGreatMapT
import Derived.WalkKit
import Derived.ProofKit
import Derived.OpenShut
import Derived.WalkSpells
import Derived.WalkLawsBesides
import Derived.Outline
import Derived.BigQuiet
import Derived.Handy
import Derived.LoopTactic
import Derived.Deep.Light
import Derived.Deep.RegionWith
import Derived.Deep.RegionHeld3
import Derived.Deep.DeepCutAuto
import Derived.Lib.Hide
namespace Go.Proofs.YtbkcecilbpngcaaGreat
open Go.ChangeShapes Go.WideShapes Go.ChangeAt Go.RowKit Go.Maps Go.ChangeMaps
set_option linter.unusedVariables false
set_option maxRecDepth 100000


/-- Block g is the set of the places of which s is true. -/
def PSet (g n : Nat) (s : Nat → Bool) (w : World) : Prop := SetMap 3 g n (fun z => ∃ j : Nat, s j = true ∧ z = .int .i64 j) w
theorem PSet.has {g n : Nat} {s : Nat → Bool} {w : World} (h : PSet g n s w) (j : Nat) (hj : j ≤ 9223372036854775807) : (Instr.lookup 60 (.map (some g)) (.int .i64 j) false).run Tryz.prog w = .ok (.bool (s j)) w := by
  obtain ⟨x, hx, hs⟩ := SetMap.look h intK mapIB (keyOf_int_mk Tryz.underlying3 (fits_nat hj))
  have : x = s j := by
    rw [Bool.eq_iff_iff, hs]
    constructor
    · rintro ⟨i, hi, e⟩
      simp only [Lit.int.injEq, true_and] at e
      obtain rfl : j = i := by omega
      exact hi
    · intro h1; exact ⟨j, h1, rfl⟩
  rw [this] at hx
  exact hx

theorem c_nodePartsN (x : ND) (w : World) : Calls Tryz.prog 106 #[.agg x.cells.toArray] w fun e w' => ∃ g pn : Nat, e = .returned (.slice (some ⟨g, 0, none⟩) pn 3) ∧ (pn : Int) = pcI x.kind ∧ w.heap.size ≤ g ∧ g < w'.heap.size ∧ (∀ t, t < 3 → w'.cell? ⟨g, t, none⟩ = some (.int .i64 (partAt x t))) ∧ Below w.heap.size w w' := by
  refine (c_nodeParts x w).mono ?_
  rintro e w1 ⟨g, rfl, h1⟩
  have := pcI_cases x.kind
  exact ⟨g, _, rfl, by omega, h1⟩

/-- A set of places is handed back: what those of a list are made of. -/
def MadeQ (ns : List ND) (ps : List Int) (pl : Nat) (w : World) (e : Ending) (w' : World) : Prop :=
  e = .returned (.map (some w.heap.size)) ∧ (∃ n s, n ≤ pl + 180 ∧ PSet w.heap.size n s w' ∧ (∀ j, s j = true ↔ MadeL ns (fun i => (i : Int) ∈ ps) j)) ∧ Below w.heap.size w w'
set_option maxHeartbeats 8000000 in
theorem c_madeOf {B : Nat} {a0 : Option Addr} {l0 p0 : Nat} {ns : List ND} {pa : Option Addr} {pl pc : Nat} {ps : List Int} (w : World) (hBw : B ≤ w.heap.size) (h : NodesAt B w a0 l0 p0 ns) (hg : nodesGood ns) (h60 : l0 ≤ 60) (hp : IntsAt B w pa pl pc ps) (hp9 : pl ≤ 1000000) (hps : ∀ z ∈ ps, 0 ≤ z ∧ z < l0) :
    Calls Tryz.prog 81 #[.slice a0 l0 p0, .slice pa pl pc] w (MadeQ ns ps pl w) := by
  have HN := Go.Lib.hid h
  have hl0 : ns.length = l0 := h.1
  have HGD := Go.Lib.hid hg
  have HP := Go.Lib.hid hp
  have hlen : ps.length = pl := hp.1
  have HLEN := Go.Lib.hid hlen
  have HPS := Go.Lib.hid hps
  have hm9 : (pl : Int) ≤ 9223372036854775807 := by omega
  have hl9 : (l0 : Int) ≤ 60 := by omega
  clear h hg hp hps hlen
  have hmm := @run_makeMap Tryz.prog
  go_enter Tryz.func81, Tryz.ntmps81
  go_wp2_with fail
  go_loopw [14] (fun i wr => ∃ t : Nat, t ≤ pl ∧ i = .int .i64 t ∧ (∃ s, PSet w.heap.size t s wr ∧ ∀ j : Nat, s j = true ↔ (j : Int) ∈ ps.take t) ∧ Below w.heap.size w wr) (fun i _ => pl - (intOf i).toNat)
  case atStart => exact ⟨0, by omega, rfl, ⟨fun _ => false, SetMap.iff (SetMap.made 3 w) (fun z => by simp), fun j => by simp⟩, by go_grown⟩
  case round =>
    obtain ⟨t, ht, rfl, ⟨s, hset, hsm⟩, hBk⟩ := hrel
    have HS := Go.Lib.hid hset
    have HSM := Go.Lib.hid hsm
    have HB := Go.Lib.hid hBk
    clear hset hsm hBk
    by_cases htl : t < pl
    · have hti : (t : Int) < pl := by omega
      obtain ⟨p, b1, o1, hpe, hpf, rfl, hbB1, e0⟩ := int_at (HP.out.below (HB.out.mono hBw)) htl
      have hpm : p ∈ ps := by have h1 := HLEN.out; rw [← hpe]; simp [List.getD, show t < ps.length by omega]
      have hpr := HPS.out p hpm
      obtain ⟨q, rfl⟩ : ∃ q : Nat, p = q := ⟨p.toNat, by omega⟩
      have HTK := Go.Lib.hid (show ps.take (t + 1) = ps.take t ++ [(q : Int)] by
        have h1 := HLEN.out
        rw [List.take_succ_eq_append_getElem (by omega), ← hpe]
        simp [List.getD, show t < ps.length by omega])
      have hne : w.heap.size ≠ b1 := by omega
      clear hpe hpm
      go_wp2_with (first | (at_mapUpdate; refine wpList_set_store _ rfl _ _ _ 60 rfl 3 intK mapIB _ t _ rfl HS.out (by unfold maxLen; omega) _ _ rfl rfl (keyOf_int_mk Tryz.underlying3 hpf) ?_; intro w3 hs3 hg3) | go_in)
      go_roundw
      case rel => exact ⟨t + 1, by omega, by go_num, ⟨fun j => if j = q then true else s j, SetMap.iff hs3 (fun z => by
          constructor
          · rintro (rfl | ⟨j, hj, rfl⟩)
            · exact ⟨q, by simp, rfl⟩
            · exact ⟨j, by by_cases hjp : j = q <;> simp [hjp, hj], rfl⟩
          · rintro ⟨j, hj, rfl⟩
            by_cases hjp : j = q
            · exact .inl (by rw [hjp])
            · exact .inr ⟨j, by simpa [hjp] using hj, rfl⟩), fun j => by
          rw [HTK.out, List.mem_append]
          by_cases hjp : j = q
          · subst hjp; simp
          · simp only [if_neg hjp]
            rw [HSM.out j]
            simp
            omega⟩, grown_below HB.out (Nat.le_refl _) hg3 HB.out.size⟩
      case measure => simp [intOf] <;> omega
    · have hti : ¬ (t : Int) < pl := by omega
      obtain rfl : pl = t := by omega
      have HI0 := Go.Lib.hid (show MInvL ns (fun i => (i : Int) ∈ ps) l0 s from MInvL.start (fun j => by have h1 := HSM.out j; rw [List.take_of_length_le (by have := HLEN.out; omega)] at h1; exact h1) (fun j hj => by have := HPS.out _ hj; omega))
      have hw0 : wrap64 ((l0 : Int) - 1) = (l0 : Int) - 1 := IntWalk.wrap64_in _ (by omega)
      go_wp2_with fail
      obtain ⟨wo, hwo⟩ : ∃ x, x = wr := ⟨_, rfl⟩
      subst hwo
      go_loopw [8] (fun i wr => ∃ k : Nat, k ≤ l0 ∧ i = .int .i64 ((k : Int) - 1) ∧ (∃ n s, n ≤ pl + 3 * (l0 - k) ∧ PSet w.heap.size n s wr ∧ MInvL ns (fun i => (i : Int) ∈ ps) k s) ∧ Below w.heap.size w wr) (fun i _ => ((intOf i) + 1).toNat)
      case atStart => exact ⟨l0, by omega, by go_num, ⟨pl, s, by omega, HS.out, HI0.out⟩, HB.out⟩
      case round =>
        obtain ⟨k, hk, rfl, ⟨n, s, hn, hset, hinv⟩, hBk⟩ := hrel
        have HS := Go.Lib.hid hset
        have HI := Go.Lib.hid hinv
        have HB := Go.Lib.hid hBk
        clear hset hinv hBk HI0
        cases k with
        | zero =>
          have hki : ¬ (0 : Int) ≤ ((0 : Nat) : Int) - 1 := by omega
          go_wp2_with fail
          go_ret
          exact ⟨rfl, ⟨n, s, by omega, HS.out, HI.out.done⟩, HB.out⟩
        | succ k =>
          have hkk : ((k + 1 : Nat) : Int) - 1 = k := by omega
          rw [hkk]
          have hki : (0 : Int) ≤ k := by omega
          have hk9 : (k : Int) < l0 := by omega
          have hlook := HS.out.has k (by omega)
          have hw1 : wrap64 ((k : Int) - 1) = (k : Int) - 1 := IntWalk.wrap64_in _ (by omega)
          cases hsk : s k
          · rw [hsk] at hlook
            go_wp2_with fail
            go_roundw
            case rel => exact ⟨k, by omega, by first | rfl | go_num, ⟨n, s, by omega, HS.out, HI.out.skip hsk⟩, HB.out⟩
            case measure => simp [intOf] <;> omega
          · rw [hsk] at hlook
            obtain ⟨nd, hkn, b, off, hnd, hok, rfl, hbB, hc⟩ := node_at ((HN.out.rows.below (HB.out.mono hBw)).nodes) (show k < l0 by omega)
            obtain ⟨c0, c1, c2, c3, c4, c5, c6, c7, c8⟩ := node_cells hc
            have HND := Go.Lib.hid (show ns.getD k default = nd by simp [List.getD, hkn, hnd])
            clear hc hnd
            obtain ⟨k0, pa, pb, pc, n0, m0, si, sw, nm⟩ := nd
            simp only at c0 c1 c2 c3 c4 c5 c6 c7 c8
            go_wp2_with (first | (go_at_call 106; refine (c_nodePartsN ⟨k0, pa, pb, pc, n0, m0, si, sw, nm⟩ _).mono ?_; rintro e w1 ⟨g, pn, rfl, hpl0, hg1, hg2, hgc, hB1⟩; have HPL := Go.Lib.hid hpl0; clear hpl0))
            clear c0 c1 c2 c3 c4 c5 c6 c7 c8 hlook
            have hpk : pcAt ns k = pcN k0 := by unfold pcAt; rw [HND.out]
            have hpn3 : pn ≤ 3 := by have h1 := HPL.out; have h2 := pcI_cases k0; omega
            have HPK := Go.Lib.hid hpk
            have hb1 := HB.out.size
            have hb0 : w.heap.size < wr.heap.size := SetMap.lt HS.out
            have HS1 := Go.Lib.hid (show PSet w.heap.size n s w1 from SetMap.below HS.out hB1)
            have HB1 := Go.Lib.hid (HB.out.trans (hB1.mono HB.out.size))
            have HGC := Go.Lib.hid hgc
            clear hgc hB1
            go_wp2_with fail
            go_loopw [38] (fun i wq => ∃ t : Nat, t ≤ pn ∧ i = .int .i64 t ∧ (∃ n2 s2, n2 ≤ n + t ∧ PSet w.heap.size n2 s2 wq ∧ MStepL ns (fun i => (i : Int) ∈ ps) k t s s2) ∧ Below w.heap.size w wq ∧ g < wq.heap.size ∧ ∀ u, u < 3 → wq.cell? ⟨g, u, none⟩ = some (.int .i64 (partAt ⟨k0, pa, pb, pc, n0, m0, si, sw, nm⟩ u))) (fun i _ => pn - (intOf i).toNat)
            case atStart => exact ⟨0, by omega, rfl, ⟨n, s, by omega, HS1.out, MStepL.start HI.out⟩, HB1.out, hg2, HGC.out⟩
            case round =>
              obtain ⟨t, ht, rfl, ⟨n2, s2, hn2, hset, hst⟩, hB2, hg4, hgc⟩ := hrel
              have HS2 := Go.Lib.hid hset
              have HST := Go.Lib.hid hst
              have HB2 := Go.Lib.hid hB2
              clear hset hst hB2 HGC HS1 HB1
              by_cases htp : t < pn
              · have hti : (t : Int) < pn := by omega
                have e0 := hgc t (by omega)
                have htq : (t : Int) < pcAt ns k := by rw [HPK.out]; have hpl := HPL.out; unfold pcI at hpl; split at hpl <;> omega
                have hgp := good_part HGD.out (show k < ns.length by omega) htq
                rw [HND.out] at hgp
                have hpq : partAt ⟨k0, pa, pb, pc, n0, m0, si, sw, nm⟩ t = (prt ns k t : Int) := by unfold prt; rw [HND.out]; omega
                rw [hpq] at e0
                have hwp : (Lit.int .i64 (prt ns k t : Int)).wf = true := fits_nat (by omega)
                have HGC := Go.Lib.hid hgc
                clear hgc hgp hpq
                go_wp2_with (first | (at_mapUpdate; refine wpList_set_store _ rfl _ _ _ 60 rfl 3 intK mapIB _ n2 _ rfl HS2.out (by unfold maxLen; omega) _ _ rfl rfl (keyOf_int_mk Tryz.underlying3 hwp) ?_; intro w3 hs3 hg3) | go_in)
                have HN3 := Go.Lib.hid (HST.out.next hsk HGD.out (show k < ns.length by omega) htq)
                have hne : some g ≠ some w.heap.size := by simp; omega
                go_roundw
                case rel => exact ⟨t + 1, by omega, by go_num, ⟨n2 + 1, _, by omega, SetMap.iff hs3 (fun z => by
                    constructor
                    · rintro (rfl | ⟨j, hj, rfl⟩)
                      · exact ⟨prt ns k t, by simp, rfl⟩
                      · exact ⟨j, by by_cases hjp : j = prt ns k t <;> simp [hjp, hj], rfl⟩
                    · rintro ⟨j, hj, rfl⟩
                      by_cases hjp : j = prt ns k t
                      · exact .inl (by rw [hjp])
                      · exact .inr ⟨j, by simpa [hjp] using hj, rfl⟩), HN3.out⟩, grown_below HB2.out (Nat.le_refl _) hg3 HB2.out.size, Nat.lt_of_lt_of_le hg4 hg3.size, fun u hu => hg3.cell (HGC.out u hu) hne⟩
                case measure => simp [intOf] <;> omega
              · have hti : ¬ (t : Int) < pn := by omega
                have HDN := Go.Lib.hid (MStepL.done HI.out HST.out (show pcAt ns k ≤ t by rw [HPK.out]; have hpl := HPL.out; unfold pcI at hpl; split at hpl <;> omega))
                clear hgc
                go_wp2_with fail
                go_roundw
                case rel => exact ⟨k, by omega, by first | rfl | go_num, ⟨n2, s2, by omega, HS2.out, HDN.out⟩, HB2.out⟩
                case measure => simp [intOf] <;> omega

theorem named_iff (k : Int) : namedB k = true ↔ (k = 36 ∨ k = 35) := by unfold namedB; by_cases h1 : k = 35 <;> by_cases h2 : k = 36 <;> simp [h1, h2]
theorem wpList_next_set {ops : Array Oper} {rest : List Oper} {o : Oper} {a : Act} {Q : Exit → Act → World → Prop} (w : World) (hg : o.guard = none) (it : Operand) (hop : o.op = Op.next it false)
    (b r n : Nat) (D : DataW Unit) (left : Lit → Bool) (cnt : Nat) (hit : a.eval it = .pointer (some ⟨r, 0, none⟩)) (h : w.ranges Tryz.prog 3 (plainElem Tryz.prog 4) b r n D left cnt)
    (hDone : cnt = 0 → (∀ kl, left kl = false) → wpList Tryz.prog ops Q rest (a.put o.dst (.tuple #[.bool false])) w)
    (hMore : ∀ (x : Int) (c : Value) (w' : World) (cnt' : Nat), (Lit.int .i64 x).wf = true → left (.int .i64 x) = true → Maps.has D (.int .i64 x) = true → w'.ranges Tryz.prog 3 (plainElem Tryz.prog 4) b r n D (fun z => left z && !z.sameKey (.int .i64 x)) cnt' → cnt' < cnt →
      w.grownBy w' (some r) → w'.heap.size = w.heap.size → (Instr.entry (.pointer (some ⟨r, 0, none⟩))).run Tryz.prog w' = .ok (.tuple #[.int .i64 x, c]) w' → wpList Tryz.prog ops Q rest (a.put o.dst (.tuple #[.bool true, .int .i64 x, c])) w') :
    wpList Tryz.prog ops Q (o :: rest) a w :=
  wpList_next_ranges w hg it hop 3 intK (plainElem Tryz.prog 4) (Value.int .i64) (fun v : Value => v) (fun key kl hkey => by obtain ⟨x, rfl, _⟩ := Maps.keyOf_int_inv Tryz.underlying3 hkey; exact ⟨x, rfl⟩) (fun v y hv => ⟨v, rfl⟩)
    b r n D left cnt hit h hDone (fun x c kl y w' cnt' hkey hlk hv hat hrg hlt hgr hsz hen => by
      obtain ⟨x', ex, rfl, hwx⟩ := Maps.keyOf_int_inv Tryz.underlying3 hkey
      cases ex
      exact hMore x c w' cnt' hwx hlk (has_true_of_atKey hat) hrg hlt hgr hsz hen)

theorem ints_one (a : Nat) (w : World) (ha : (a : Int) ≤ 1000000 := by omega) : IntsAt (w.alloc (.cells #[.int .i64 (a : Int)] 3)).heap.size (w.alloc (.cells #[.int .i64 (a : Int)] 3)) (some ⟨w.heap.size, 0, none⟩) 1 1 [(a : Int)] :=
  ⟨rfl, Nat.le_refl _, by unfold maxLen; omega, fun x hx => by simp at hx; subst hx; exact fits_nat (by omega), fun e => by simp at e, .inr ⟨w.heap.size, 0, rfl, alloc_ltS _ _, fun i hi j hj => by
    have hi0 : i = 0 := by simpa using hi
    subst hi0
    obtain rfl : j = 0 := by omega
    simp [intCells]⟩⟩
set_option maxHeartbeats 4000000 in
theorem c_hangsOnRun {B : Nat} {a0 : Option Addr} {l0 p0 : Nat} {ns : List ND} (at_ : Nat) (w : World) (hBw : B ≤ w.heap.size) (h : NodesAt B w a0 l0 p0 ns) (hg : nodesGood ns) (h60 : l0 ≤ 60) (ha : at_ < l0) :
    Calls Tryz.prog 69 #[.slice a0 l0 p0, .int .i64 at_] w fun e w' => BoolIs (¬ fixedN ns at_) e ∧ Below w.heap.size w w' := by
  have HN := Go.Lib.hid h
  have hl0 : ns.length = l0 := h.1
  have HGD := Go.Lib.hid hg
  clear h hg
  go_enter Tryz.func69, Tryz.ntmps69
  go_wp2_with fail
  have hBa : ∀ o, B ≤ (w.alloc o).heap.size := fun o => by show B ≤ (w.heap.push o).size; simp; omega
  refine (c_madeOf (B := (w.alloc (.cells #[.int .i64 (at_ : Int)] 3)).heap.size) (ps := [(at_ : Int)]) _ (Nat.le_refl _) (((HN.out.rows.below ((show Below w.heap.size w _ by go_grown).mono hBw)).mono (hBa _)).nodes) HGD.out h60 (ints_one at_ w) (by omega) (by simp; omega)).mono ?_
  rintro e w1 ⟨rfl, ⟨n, s, hn, ⟨D, hown, hmap, hD⟩, hs⟩, hB1⟩
  have HS := Go.Lib.hid (fun j => (hs j).trans madeL_one)
  have HD := Go.Lib.hid hD
  have HO := Go.Lib.hid hown
  have hwm : w.heap.size ≤ (w.alloc (.cells #[.int .i64 (at_ : Int)] 3)).heap.size := by show _ ≤ (w.heap.push _).size; simp
  replace hB1 := Go.Lib.hid ((show Below w.heap.size w (w.alloc (.cells #[.int .i64 (at_ : Int)] 3)) by go_grown).trans (hB1.mono hwm))
  have HB1 := hB1
  obtain ⟨mb, hmb⟩ : ∃ k, (w.alloc (.cells #[.int .i64 (at_ : Int)] 3)).heap.size = k := ⟨_, rfl⟩
  rw [hmb] at HO hwm ⊢
  clear hs hD hB1 hown hmap hmb
  go_wp2_with (first | (at_range; refine wpList_range_own _ rfl _ 60 rfl 3 4 intK mapIB _ _ _ _ rfl HO.out ?_; intro w2 hrg2 hg2 hs2) | go_in)
  go_frame
  have HB2 := Go.Lib.hid (HB1.out.grown hg2 HB1.out.size (fun j hj => by cases hj))
  have hb1 := HB1.out.size
  have HR2 := Go.Lib.hid hrg2
  clear hrg2 hg2
  go_loopw [5] (fun _ wr => (∃ left cnt, wr.ranges Tryz.prog 3 (plainElem Tryz.prog 4) mb w1.heap.size n D left cnt ∧ ∀ j : Nat, s j = true → left (.int .i64 j) = false → ¬ ((ns.getD j default).kind = 36 ∨ (ns.getD j default).kind = 35)) ∧ Below w.heap.size w wr) (fun _ wr => wr.rangeLeft mb w1.heap.size)
  case atStart => exact ⟨⟨_, _, HR2.out, fun j hj hl => absurd ((HD.out (.int .i64 j)).1.2 ⟨j, hj, rfl⟩) (by rw [hl]; simp)⟩, HB2.out⟩
  case round =>
    obtain ⟨⟨left, cnt, hrg, hno⟩, hBr⟩ := hrel
    have HNO := Go.Lib.hid hno
    have HB := Go.Lib.hid hBr
    have HRG := Go.Lib.hid hrg
    clear hno hBr hrg HR2 HB2
    go_wp2_with (first | (at_next; refine wpList_next_set _ rfl _ rfl _ _ _ _ _ _ rfl HRG.out ?_ ?_) | go_in)
    · intro _ hl0'
      have HL := Go.Lib.hid hl0'
      clear hl0'
      go_wp2_with fail
      go_ret
      exact ⟨BoolIs.no (fun hh => hh (fun j hj => HNO.out j ((HS.out j).2 hj) (HL.out _))), HB.out⟩
    · intro x c w3 cnt3 hwx hlx hhas hrg3 hlt3 hg3 hs3 hen
      obtain ⟨j, hj, ej⟩ := (HD.out _).1.1 hhas
      simp only [Lit.int.injEq, true_and] at ej
      subst ej
      have HRG3 := Go.Lib.hid hrg3
      have HB3 := Go.Lib.hid (grown_below HB.out hb1 hg3 HB.out.size)
      have HM := Go.Lib.hid ((HS.out j).1 hj)
      have hjl : j < l0 := by have := MadeOf.le HGD.out (show at_ < ns.length by omega) HM.out; omega
      have hji : (j : Int) < l0 := by omega
      have HLX := Go.Lib.hid hlx
      have HLT := Go.Lib.hid hlt3
      clear hhas hrg3 hg3 hlx hlt3
      obtain ⟨kd, b, off, hkd, rfl, hbB, c0⟩ := node_kind ((HN.out.rows.below (HB3.out.mono hBw)).nodes) hjl
      have HKD := Go.Lib.hid hkd
      clear hkd
      by_cases hnm : namedB kd = true
      · go_wp2_with (first | (go_at_call 99; refine (c_kindNamed _ _).mono ?_; rw [hnm]; rintro e w' ⟨rfl, rfl⟩))
        go_ret
        exact ⟨BoolIs.yes (fun hh => hh j HM.out (by rw [HKD.out]; exact (named_iff _).1 hnm)), HB3.out⟩
      · have hnf : namedB kd = false := by simpa using hnm
        go_wp2_with (first | (go_at_call 99; refine (c_kindNamed _ _).mono ?_; rw [hnf]; rintro e w' ⟨rfl, rfl⟩))
        go_roundw
        case rel => exact ⟨⟨_, _, HRG3.out, fun i hi hl => by
            by_cases hij : i = j
            · subst hij
              intro hh; rw [HKD.out] at hh; exact hnm ((named_iff _).2 hh)
            · refine HNO.out i hi ?_
              have : (Lit.int .i64 (i : Int)).sameKey (.int .i64 j) = false := sameKey_ne (by simp; omega)
              simpa [this] using hl⟩, HB3.out⟩
        case measure => rw [HRG3.out.left_eq, HRG.out.left_eq]; exact HLT.out
end Go.Proofs.YtbkcecilbpngcaaGreat
