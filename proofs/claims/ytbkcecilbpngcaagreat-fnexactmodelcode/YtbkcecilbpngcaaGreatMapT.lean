/-
  A state that is bound twice, a name that stands twice: the program.
-/
import Derived.Test.YtbkcecilbpngcaaGreatRows
import Derived.Test.YtbkcecilbpngcaaGreatPaA
import Derived.Test.YtbkcecilbpngcaaGreatNodeL
import Derived.Test.YtbkcecilbpngcaaGreatModD
import Derived.Test.YtbkcecilbpngcaaGreatModA
import Derived.Test.YtbkcecilbpngcaaGreatModB
import Derived.Test.YtbkcecilbpngcaaGreatModC
import Derived.Test.YtbkcecilbpngcaaGreatModF
import Derived.Test.YtbkcecilbpngcaaGreatMapB
import Derived.WalkKit
import Derived.ProofKit
import Derived.OpenShut
import Derived.WalkSpells
import Derived.WalkLawsBesides
import Derived.Outline
import Derived.BigQuiet
import Derived.Handy
import Derived.LoopTactic
import Derived.Deep.Light
import Derived.Deep.RegionWith
import Derived.Deep.RegionHeld3
import Derived.Deep.DeepCutAuto
import Derived.Lib.Hide
namespace Go.Proofs.YtbkcecilbpngcaaGreat
open Go.ChangeShapes Go.WideShapes Go.ChangeAt Go.RowKit Go.Maps Go.ChangeMaps
set_option linter.unusedVariables false
set_option maxRecDepth 100000


theorem mapIB : Tryz.prog.underlying 60 = some (.map 3 4) := Tryz.underlying60
theorem mapSB : Tryz.prog.underlying 87 = some (.map 9 4) := Tryz.underlying87

set_option maxHeartbeats 4000000 in
theorem c_hasStateTwice {B : Nat} {a : Option Addr} {len cap : Nat} {bs : List BD} (w : World) (hBw : B ≤ w.heap.size) (h : BindsAt B w a len cap bs) :
    Calls Tryz.prog 34 #[.slice a len cap] w fun e w' => BoolIs (againN bs) e ∧ Below w.heap.size w w' := by
  have HN := Go.Lib.hid h
  have hlen : bs.length = len := h.1
  have hm := Nat.le_trans h.2.1 h.2.2.1
  unfold maxLen at hm
  clear h
  have hmm := @run_makeMap Tryz.prog
  go_enter Tryz.func34, Tryz.ntmps34
  go_wp2_with fail
  go_loopw [9] (fun i wr => ∃ k : Nat, k ≤ len ∧ i = .int .i64 k ∧ (∀ x y : Nat, y < x → x < k → stAt bs x ≠ stAt bs y) ∧ SetMap 3 w.heap.size k (fun z => ∃ y, y < k ∧ z = .int .i64 (stAt bs y)) wr ∧ Below w.heap.size w wr) (fun i _ => len - (intOf i).toNat)
  case atStart => exact ⟨0, by omega, rfl, fun x y _ h => by omega, (SetMap.made _ _).iff (fun z => by simp), (Below.refl _ _).alloc (Nat.le_refl _) _⟩
  case round =>
    obtain ⟨k, hk, rfl, hno, hset, hBk⟩ := hrel
    have HNO := Go.Lib.hid hno
    have HS := Go.Lib.hid hset
    have HB := Go.Lib.hid hBk
    clear hno hBk hset
    by_cases hkl : k < len
    · have hki : (k : Int) < len := by omega
      obtain ⟨b1, b, off, e1, hok, rfl, hbB, c0, c1⟩ := bind_at (HN.out.below (HB.out.mono hBw)) hkl
      have HST := Go.Lib.hid (show stAt bs k = b1.st by unfold stAt; rw [e1])
      have hwf : (Lit.int .i64 b1.st).wf = true := hok.1
      obtain ⟨st, nd⟩ := b1
      simp only at c0 c1 hwf HST
      clear e1 hok
      go_upto_region 5 with fail
      refine code_gen (R := fun wb => wb.cell? ⟨wr.heap.size, 0, none⟩ = some (.int .i64 st) ∧ SetMap 3 w.heap.size k (fun z => ∃ y, y < k ∧ z = .int .i64 (stAt bs y)) wb ∧ Below w.heap.size w wb) ⟨by simp, HS.out.below (by go_grown), HB.out.trans (Below.mono (show Below wr.heap.size wr _ by go_grown) HB.out.size)⟩ ?_
      rintro wb ⟨z0, hsb, hBb⟩
      have HSB := Go.Lib.hid hsb
      have HBB := Go.Lib.hid hBb
      clear hsb hBb c0 c1
      obtain ⟨c, hrun, hc⟩ := HSB.out.look intK mapIB (keyOf_int_mk Tryz.underlying3 hwf)
      have HC := Go.Lib.hid hc
      clear hc
      cases c
      · go_wp2_with (first | (at_mapUpdate; refine wpList_set_store _ rfl _ _ _ 60 rfl 3 intK mapIB _ k _ rfl HSB.out (by unfold maxLen; omega) _ _ rfl rfl (keyOf_int_mk Tryz.underlying3 hwf) ?_; intro w1 hs1 hg1) | go_in)
        go_roundw
        case rel => exact ⟨k + 1, by omega, by go_num, fun x y hy hx => by
            rcases Nat.lt_or_ge x k with h | h
            · exact HNO.out x y hy h
            · obtain rfl : x = k := by omega
              intro e
              exact absurd (HC.out.2 ⟨y, hy, by rw [← HST.out, e]⟩) (by simp), hs1.iff (fun z => by
            constructor
            · rintro (rfl | ⟨y, hy, rfl⟩)
              · exact ⟨k, by omega, by rw [HST.out]⟩
              · exact ⟨y, by omega, rfl⟩
            · rintro ⟨y, hy, rfl⟩
              rcases Nat.lt_or_ge y k with h | h
              · exact .inr ⟨y, h, rfl⟩
              · obtain rfl : y = k := by omega
                exact .inl (by rw [HST.out])), grown_below HBB.out (Nat.le_refl _) hg1 HBB.out.size⟩
        case measure => simp [intOf]; omega
      · go_wp2_with fail
        go_ret
        exact ⟨BoolIs.yes (by
          obtain ⟨y, hy, e⟩ := HC.out.1 (by trivial)
          simp only [Lit.int.injEq, true_and] at e
          exact ⟨k, y, hy, by omega, by rw [HST.out, e]⟩), HBB.out⟩
    · have hki : ¬ (k : Int) < len := by omega
      go_wp2_with fail
      go_ret
      exact ⟨BoolIs.no (by rintro ⟨x, y, hy, hx, he⟩; exact HNO.out x y hy (by omega) he), HB.out⟩

theorem node_name' {B : Nat} {w : World} {a : Option Addr} {len cap k : Nat} {ns : List ND} (h : NodesAt B w a len cap ns) (hk : k < len) :
    ∃ (nd : ND) (b off : Nat), nmAt ns k = nd.name.toList ∧ nd.name.size ≤ maxLen ∧ a = some ⟨b, off, none⟩ ∧ b < B ∧ ∀ j, j < 9 → w.cell? ⟨b, off + k * 9 + j, none⟩ = nd.cells[j]? := by
  obtain ⟨nd, hk', b, off, hnd, hok, ha, hbB, hc⟩ := node_at h hk
  have hg : ns.getD k default = ns[k] := by simp [List.getD, hk']
  exact ⟨nd, b, off, by unfold nmAt; rw [hg, hnd], hok.2.2.2.2.2.2.2.2, ha, hbB, hc⟩

set_option maxHeartbeats 4000000 in
theorem c_hasNameTwice {B : Nat} {a : Option Addr} {len cap : Nat} {ns : List ND} (w : World) (hBw : B ≤ w.heap.size) (h : NodesAt B w a len cap ns) :
    Calls Tryz.prog 33 #[.slice a len cap] w fun e w' => BoolIs (namesTwice ns) e ∧ Below w.heap.size w w' := by
  have HN := Go.Lib.hid h
  have hlen : ns.length = len := h.1
  have hm := Nat.le_trans h.2.1 h.2.2.1
  unfold maxLen at hm
  clear h
  have hmm := @run_makeMap Tryz.prog
  go_enter Tryz.func33, Tryz.ntmps33
  go_wp2_with fail
  go_loopw [9] (fun i wr => ∃ k : Nat, k ≤ len ∧ i = .int .i64 k ∧ (∀ x y : Nat, y < x → x < k → nmAt ns x ≠ [] → nmAt ns x ≠ nmAt ns y) ∧ SetMap 9 w.heap.size k (fun z => ∃ y, y < k ∧ z = .string (nmAt ns y)) wr ∧ Below w.heap.size w wr) (fun i _ => len - (intOf i).toNat)
  case atStart => exact ⟨0, by omega, rfl, fun x y _ h => by omega, (SetMap.made _ _).iff (fun z => by simp), (Below.refl _ _).alloc (Nat.le_refl _) _⟩
  case round =>
    obtain ⟨k, hk, rfl, hno, hset, hBk⟩ := hrel
    have HNO := Go.Lib.hid hno
    have HS := Go.Lib.hid hset
    have HB := Go.Lib.hid hBk
    clear hno hBk hset
    by_cases hkl : k < len
    · have hki : (k : Int) < len := by omega
      obtain ⟨nd, b, off, e1, hsz, rfl, hbB, hc⟩ := node_name' ((HN.out.rows.below (HB.out.mono hBw)).nodes) hkl
      obtain ⟨c0, c1, c2, c3, c4, c5, c6, c7, c8⟩ := node_cells hc
      obtain ⟨k0, pa, pb, pc, n, m, si, sw, nm⟩ := nd
      simp only at c0 c1 c2 c3 c4 c5 c6 c7 c8 hsz e1
      have HNM := Go.Lib.hid e1
      have HKD := Go.Lib.hid (show nmAt ns k = nm.data.toList by rw [e1, ByteArray.toList_eq])
      clear e1 hc
      go_upto_region 5 with fail
      refine code_gen (R := fun wb => wb.cell? ⟨wr.heap.size, 8, none⟩ = some (.string nm) ∧ SetMap 9 w.heap.size k (fun z => ∃ y, y < k ∧ z = .string (nmAt ns y)) wb ∧ Below w.heap.size w wb) ⟨by simp, HS.out.below (by go_grown), HB.out.trans (Below.mono (show Below wr.heap.size wr _ by go_grown) HB.out.size)⟩ ?_
      rintro wb ⟨z0, hsb, hBb⟩
      have HSB := Go.Lib.hid hsb
      have HBB := Go.Lib.hid hBb
      clear hsb hBb c0 c1 c2 c3 c4 c5 c6 c7 c8
      obtain ⟨c, hrun, hc⟩ := HSB.out.look strK mapSB (Go.WideMaps.keyOf_string_mk Tryz.underlying9 hsz)
      have HC := Go.Lib.hid (show c = true ↔ ∃ y, y < k ∧ nmAt ns k = nmAt ns y by rw [hc, HKD.out]; simp)
      clear hc
      have hstore : ∀ w1, SetMap 9 w.heap.size (k + 1) (fun z => z = .string nm.data.toList ∨ ∃ y, y < k ∧ z = .string (nmAt ns y)) w1 → SetMap 9 w.heap.size (k + 1) (fun z => ∃ y, y < k + 1 ∧ z = .string (nmAt ns y)) w1 := fun w1 h1 => h1.iff (fun z => by
            constructor
            · rintro (rfl | ⟨y, hy, rfl⟩)
              · exact ⟨k, by omega, by rw [HKD.out]⟩
              · exact ⟨y, by omega, rfl⟩
            · rintro ⟨y, hy, rfl⟩
              rcases Nat.lt_or_ge y k with h | h
              · exact .inr ⟨y, h, rfl⟩
              · obtain rfl : y = k := by omega
                exact .inl (by rw [HKD.out]))
      have HST := Go.Lib.hid hstore
      clear hstore
      by_cases hz : nm.toList = []
      · have hz' : (!nm.toList.isEmpty) = false := by rw [hz]; rfl
        clear hrun
        go_wp2_with (first | (at_mapUpdate; refine wpList_set_store _ rfl _ _ _ 87 rfl 9 strK mapSB _ k _ rfl HSB.out (by unfold maxLen; omega) _ _ rfl rfl (Go.WideMaps.keyOf_string_mk Tryz.underlying9 hsz) ?_; intro w1 hs1 hg1) | go_in)
        go_roundw
        case rel => exact ⟨k + 1, by omega, by go_num, fun x y hy hx hne => by
            rcases Nat.lt_or_ge x k with h | h
            · exact HNO.out x y hy h hne
            · obtain rfl : x = k := by omega
              exact absurd (HNM.out.trans hz) hne, HST.out _ hs1, grown_below HBB.out (Nat.le_refl _) hg1 HBB.out.size⟩
        case measure => simp [intOf]; omega
      · have hz' : (!nm.toList.isEmpty) = true := by cases hq : nm.toList with | nil => exact absurd hq hz | cons => rfl
        have HZ := Go.Lib.hid hz
        clear hz
        cases c
        · go_wp2_with (first | (at_mapUpdate; refine wpList_set_store _ rfl _ _ _ 87 rfl 9 strK mapSB _ k _ rfl HSB.out (by unfold maxLen; omega) _ _ rfl rfl (Go.WideMaps.keyOf_string_mk Tryz.underlying9 hsz) ?_; intro w1 hs1 hg1) | go_in)
          go_roundw
          case rel => exact ⟨k + 1, by omega, by go_num, fun x y hy hx hne => by
              rcases Nat.lt_or_ge x k with h | h
              · exact HNO.out x y hy h hne
              · obtain rfl : x = k := by omega
                intro e
                exact absurd (HC.out.2 ⟨y, hy, e⟩) (by simp), HST.out _ hs1, grown_below HBB.out (Nat.le_refl _) hg1 HBB.out.size⟩
          case measure => simp [intOf]; omega
        · go_wp2_with fail
          go_ret
          exact ⟨BoolIs.yes (by
            obtain ⟨y, hy, e⟩ := HC.out.1 (by trivial)
            exact ⟨k, y, hy, by omega, by rw [HNM.out]; exact HZ.out, e⟩), HBB.out⟩
    · have hki : ¬ (k : Int) < len := by omega
      go_wp2_with fail
      go_ret
      exact ⟨BoolIs.no (by rintro ⟨x, y, hy, hx, hne, he⟩; exact HNO.out x y hy (by omega) hne he), HB.out⟩
end Go.Proofs.YtbkcecilbpngcaaGreat
