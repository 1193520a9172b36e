/-
  Binds of the beginning and of what comes next: the program.
-/
import Derived.Test.YtbkcecilbpngcaaGreatRows
import Derived.Test.YtbkcecilbpngcaaGreatPaA
import Derived.Test.YtbkcecilbpngcaaGreatNodeM
import Derived.Test.YtbkcecilbpngcaaGreatNames
import Derived.Test.YtbkcecilbpngcaaGreatNodeL
import Derived.Test.YtbkcecilbpngcaaGreatResP
import Derived.Test.YtbkcecilbpngcaaGreatNSortI
import Derived.Test.YtbkcecilbpngcaaGreatKSortP
import Derived.Test.YtbkcecilbpngcaaGreatModD
import Derived.Test.YtbkcecilbpngcaaGreatModA
import Derived.Test.YtbkcecilbpngcaaGreatModB
import Derived.Test.YtbkcecilbpngcaaGreatModE
import Derived.Test.YtbkcecilbpngcaaGreatModF
import Derived.Test.YtbkcecilbpngcaaGreatModG
import Derived.Test.YtbkcecilbpngcaaGreatModH
import Derived.Test.YtbkcecilbpngcaaGreatModI
import Derived.Test.YtbkcecilbpngcaaGreatModJ
import Derived.Test.YtbkcecilbpngcaaGreatMapB
import Derived.Test.YtbkcecilbpngcaaGreatModM
import Derived.Test.YtbkcecilbpngcaaGreatModN
import Derived.WalkKit
import Derived.ProofKit
import Derived.OpenShut
import Derived.WalkSpells
import Derived.WalkLawsBesides
import Derived.Outline
import Derived.BigQuiet
import Derived.Handy
import Derived.LoopTactic
import Derived.Deep.Light
import Derived.Deep.RegionWith
import Derived.Deep.RegionHeld3
import Derived.Deep.DeepCutAuto
import Derived.Lib.Hide
namespace Go.Proofs.YtbkcecilbpngcaaGreat
open Go.ChangeShapes Go.WideShapes Go.ChangeAt Go.RowKit
set_option linter.unusedVariables false
set_option maxRecDepth 100000


def nextsOk (M : MD) : Prop := ∀ t, t < M.xs.length → boundN M.ns (M.xs.getD t default)
def initsOk (M : MD) : Prop := ∀ t, t < M.is.length → initN M.ns (M.is.getD t default)
theorem bindsN_iff (M : MD) : bindsN M ↔ initsOk M ∧ nextsOk M := Iff.rfl
theorem boundN_iff (ns : List ND) (b : BD) : boundN ns b ↔ plcN ns b ∧ sortAt ns b.st = sortAt ns b.nd := by
  unfold boundN plcN
  constructor
  · rintro ⟨h1, h2, h3, h4⟩; exact ⟨⟨h1, h3, h2⟩, h4⟩
  · rintro ⟨⟨h1, h3, h2⟩, h4⟩; exact ⟨h1, h2, h3, h4⟩
theorem initN_iff (ns : List ND) (p r : Nat) : initN ns ⟨p, r⟩ ↔ plcN ns ⟨p, r⟩ ∧ isrtN ns p r ∧ fixedN ns r := by
  unfold initN wordN boundN plcN isrtN
  simp only [Int.toNat_natCast]
  constructor
  · rintro ⟨⟨h1, h2, h3, h4⟩ | ⟨h1, h2, h3, h4⟩, h5⟩
    · exact ⟨⟨h1, h3, h2⟩, .inr h4, h5⟩
    · exact ⟨⟨h1, h3, h2⟩, .inl h4.symm, h5⟩
  · rintro ⟨⟨h1, h3, h2⟩, h4 | h4, h5⟩
    · exact ⟨.inr ⟨h1, h2, h3, h4.symm⟩, h5⟩
    · exact ⟨.inl ⟨h1, h2, h3, h4⟩, h5⟩
theorem initN_plc {ns : List ND} {b : BD} (h : initN ns b) : plcN ns b := by
  rcases h.1 with h | h
  · exact ⟨h.1, h.2.2.1, h.2.1⟩
  · exact ((boundN_iff _ _).1 h).1

set_option maxHeartbeats 8000000 in
theorem c_hasBadNext {B : Nat} {s0 s1 s2 s3 s4 : SL} {M : MD} (w : World) (hBw : B ≤ w.heap.size) (h : ModelAt B w s0 s1 s2 s3 s4 M) (hg : nodesGood M.ns) :
    Calls Tryz.prog 36 #[.agg (mcells s0 s1 s2 s3 s4).toArray] w fun e w' => BoolIs (¬ nextsOk M) e ∧ Below w.heap.size w w' := by
  have HMA := Go.Lib.hid h
  have HN := Go.Lib.hid h.ns
  have HI := Go.Lib.hid h.xs
  have hl0 : M.ns.length = s0.len := h.ns.1
  have hll : M.xs.length = s2.len := h.xs.1
  have hm1 := Nat.le_trans h.xs.2.1 h.xs.2.2.1
  unfold maxLen at hm1
  have HGD := Go.Lib.hid hg
  clear h hg
  obtain ⟨a0, l0, p0⟩ := s0
  obtain ⟨a1, l1, p1⟩ := s1
  obtain ⟨a2, l2, p2⟩ := s2
  simp only [mcells] at *
  go_enter Tryz.func36, Tryz.ntmps36
  go_wp2_with fail
  go_loopw [8] (fun i wr => ∃ t : Nat, t ≤ l2 ∧ i = .int .i64 t ∧ (∀ y, y < t → boundN M.ns (M.xs.getD y default)) ∧ Boxed ⟨a0, l0, p0⟩ ⟨a1, l1, p1⟩ ⟨a2, l2, p2⟩ s3 s4 w wr) (fun i _ => l2 - (intOf i).toNat)
  case atStart => exact ⟨0, by omega, rfl, fun t h => by omega, Boxed.new _ _ _ _ _ _ _⟩
  case round =>
    obtain ⟨t, ht, rfl, hno, HX0⟩ := hrel
    have HNO := Go.Lib.hid hno
    have HXR := Go.Lib.hid HX0
    obtain ⟨hlt, -, -, -, -, -, hBk⟩ := HX0
    have HB := Go.Lib.hid hBk
    clear hno hBk
    by_cases htl : t < l2
    · have hti : (t : Int) < l2 := by omega
      obtain ⟨bd, bb, bo, hbd, hbok, rfl, hbB, e0, e1⟩ := bind_at (HI.out.below (HB.out.mono hBw)) htl
      have HBD := Go.Lib.hid hbd
      clear hbd hbok
      obtain ⟨st, nd⟩ := bd
      simp only at e0 e1
      go_upto_region 4 with fail
      refine code_gen (R := fun wb => Boxed ⟨a0, l0, p0⟩ ⟨a1, l1, p1⟩ ⟨some ⟨bb, bo, none⟩, l2, p2⟩ s3 s4 w wb ∧ wr.heap.size < wb.heap.size ∧ wb.cell? ⟨wr.heap.size, 0, none⟩ = some (.int .i64 st) ∧ wb.cell? ⟨wr.heap.size, 1, none⟩ = some (.int .i64 nd)) ⟨HXR.out.below (show Below wr.heap.size wr _ by go_grown), by simp, by simp, by simp⟩ ?_
      rintro wb ⟨hbox, hgl, z1, z2⟩
      have HWB := Go.Lib.hid hbox
      obtain ⟨hltb, z0, -, -, -, -, hBb0⟩ := hbox
      have HBB := Go.Lib.hid hBb0
      have hBb : B ≤ wb.heap.size := Nat.le_trans hBw hBb0.size
      have HNB := Go.Lib.hid ((HN.out.rows.below (HBB.out.mono hBw)).nodes)
      generalize hgg : wr.heap.size = g at *
      clear hBb0 e0 e1 hgg HXR HB hlt
      by_cases hpl : plcN M.ns ⟨st, nd⟩
      · have hpq := hpl
        obtain ⟨⟨hs1, hs2⟩, -, hn1, hn2⟩ := hpq
        simp only at hs1 hs2 hn1 hn2
        obtain ⟨p, rfl⟩ : ∃ p : Nat, st = p := ⟨st.toNat, by omega⟩
        obtain ⟨r, rfl⟩ : ∃ r : Nat, nd = r := ⟨nd.toNat, by omega⟩
        have HPL := Go.Lib.hid hpl
        have hpl2 : (p : Int) < l0 := by omega
        have hrl : (r : Int) < l0 := by omega
        obtain ⟨i1, w1, b, off, hs3, rfl, hbB2, d6, d7⟩ := node_sort HNB.out (show p < l0 by omega)
        obtain ⟨i2, w2, b2, o2, hs4, e2, -, f6, f7⟩ := node_sort HNB.out (show r < l0 by omega)
        simp only [Option.some.injEq, Addr.mk.injEq, and_true] at e2
        obtain ⟨rfl, rfl⟩ := e2
        have hbw : b < wb.heap.size := Nat.lt_of_lt_of_le hbB2 hBb
        have HS3 := Go.Lib.hid hs3
        have HS4 := Go.Lib.hid hs4
        clear hs3 hs4 hpl hs2 hn2
        by_cases hi : i2 = i1
        · subst hi
          by_cases hw : w2 = w1
          · subst hw
            have HY := Go.Lib.hid (show ∀ y, y < t + 1 → boundN M.ns (M.xs.getD y default) from fun y hy => by
              rcases Nat.lt_or_ge y t with h | h
              · exact HNO.out y h
              · obtain rfl : y = t := by omega
                rw [← HBD.out]; exact (boundN_iff _ _).2 ⟨HPL.out, by simp only; rw [HS3.out, HS4.out]⟩)
            refine wp_region_held_drew (S := (fun w' => w'.cell? ⟨w.heap.size, 0, none⟩ = some (.slice (some ⟨b, off, none⟩) l0 p0) ∧ w'.cell? ⟨g, 0, none⟩ = some (.int .i64 p) ∧ w'.cell? ⟨g, 1, none⟩ = some (.int .i64 r) ∧ w'.cell? ⟨b, off + p * 9 + 6, none⟩ = some (.int .i64 i2) ∧ w'.cell? ⟨b, off + p * 9 + 7, none⟩ = some (.int .i64 w2) ∧ w'.cell? ⟨b, off + r * 9 + 6, none⟩ = some (.int .i64 i2) ∧ w'.cell? ⟨b, off + r * 9 + 7, none⟩ = some (.int .i64 w2))) (by kernel_rfl) ?_ (fun hHeld => ?_)
            · exact ⟨keepc (by go_grown) hltb z0, keepc (by go_grown) hgl z1, keepc (by go_grown) hgl z2, keepc (by go_grown) hbw d6, keepc (by go_grown) hbw d7, keepc (by go_grown) hbw f6, keepc (by go_grown) hbw f7⟩
            refine tL 0 (some 12) ?_
            refine tL 1 (some 13) ?_
            refine tL 2 (some 14) ?_
            refine wpAnyH_ready (rs := [3]) (by kernel_rfl) (by simp) ?_
            refine AllReadyH.cons (o := _) rfl (fun K hK => ?_) AllReadyH.nil
            go_simp
            refine (c_bindPlacesOk ⟨(p : Int), (r : Int)⟩ _ (Nat.le_trans hBb (by go_size)) ((HNB.out.rows.below (Below.mono (show Below wb.heap.size wb _ by go_grown) hBb)).nodes)).mono ?_; rintro e w2 ⟨hbi, hB2⟩; obtain rfl := boolIs_t HPL.out hbi; clear hbi; have hb2 : Below wb.heap.size wb w2 := bstep (by go_grown) (Nat.le_refl _) hB2; have ht2 := hb2.size; clear hB2
            (try go_wp2_with fail)
            (try clear hHeld)
            refine hK.out _ _ ?_ (fun hHeld => ?_)
            · exact ⟨keepc (by go_grown) hltb z0, keepc (by go_grown) hgl z1, keepc (by go_grown) hgl z2, keepc (by go_grown) hbw d6, keepc (by go_grown) hbw d7, keepc (by go_grown) hbw f6, keepc (by go_grown) hbw f7⟩
            clear hK K
            (try simp only [Act.put, List.setIfInBounds_toArray, List.set_cons_zero, List.set_cons_succ])
            refine tL 4 (some 16) ?_
            refine tL 5 (some 17) ?_
            refine tL 6 (some 18) ?_
            refine tL 7 (some 19) ?_
            refine tL 8 (some 20) ?_
            refine tL 9 (some 21) ?_
            refine tL 10 (some 22) ?_
            refine tL 11 (some 23) ?_
            refine tL 12 (some 24) ?_
            refine tL 13 (some 25) ?_
            refine tL 14 (some 26) ?_
            refine tL 15 (some 27) ?_
            refine tL 16 (some 28) ?_
            refine tL 17 (some 29) ?_
            refine tL 18 (some 30) ?_
            refine tL 19 (some 31) ?_
            refine tL 20 (some 32) ?_
            refine tL 21 (some 33) ?_
            refine wpAnyH_done (by kernel_rfl) ?_ _
            clear hHeld
            go_wp2_with fail
            go_roundw
            case rel => exact ⟨t + 1, by omega, by go_num, HY.out, HWB.out.below (show Below wb.heap.size wb _ by go_grown)⟩
            case measure => simp [intOf] <;> omega
          · have q1 : (w2 == w1) = false := by simpa using hw
            have HNI := Go.Lib.hid (show ¬ boundN M.ns (M.xs.getD t default) from fun hh => by rw [← HBD.out] at hh; have h4 := ((boundN_iff _ _).1 hh).2; simp only at h4; rw [HS3.out, HS4.out] at h4; simp only [Prod.mk.injEq] at h4; exact hw h4.2.symm)
            refine wp_region_held_drew (S := (fun w' => w'.cell? ⟨w.heap.size, 0, none⟩ = some (.slice (some ⟨b, off, none⟩) l0 p0) ∧ w'.cell? ⟨g, 0, none⟩ = some (.int .i64 p) ∧ w'.cell? ⟨g, 1, none⟩ = some (.int .i64 r) ∧ w'.cell? ⟨b, off + p * 9 + 6, none⟩ = some (.int .i64 i2) ∧ w'.cell? ⟨b, off + p * 9 + 7, none⟩ = some (.int .i64 w1) ∧ w'.cell? ⟨b, off + r * 9 + 6, none⟩ = some (.int .i64 i2) ∧ w'.cell? ⟨b, off + r * 9 + 7, none⟩ = some (.int .i64 w2))) (by kernel_rfl) ?_ (fun hHeld => ?_)
            · exact ⟨keepc (by go_grown) hltb z0, keepc (by go_grown) hgl z1, keepc (by go_grown) hgl z2, keepc (by go_grown) hbw d6, keepc (by go_grown) hbw d7, keepc (by go_grown) hbw f6, keepc (by go_grown) hbw f7⟩
            refine tL 0 (some 12) ?_
            refine tL 1 (some 13) ?_
            refine tL 2 (some 14) ?_
            refine wpAnyH_ready (rs := [3]) (by kernel_rfl) (by simp) ?_
            refine AllReadyH.cons (o := _) rfl (fun K hK => ?_) AllReadyH.nil
            go_simp
            refine (c_bindPlacesOk ⟨(p : Int), (r : Int)⟩ _ (Nat.le_trans hBb (by go_size)) ((HNB.out.rows.below (Below.mono (show Below wb.heap.size wb _ by go_grown) hBb)).nodes)).mono ?_; rintro e w2 ⟨hbi, hB2⟩; obtain rfl := boolIs_t HPL.out hbi; clear hbi; have hb2 : Below wb.heap.size wb w2 := bstep (by go_grown) (Nat.le_refl _) hB2; have ht2 := hb2.size; clear hB2
            (try go_wp2_with fail)
            (try clear hHeld)
            refine hK.out _ _ ?_ (fun hHeld => ?_)
            · exact ⟨keepc (by go_grown) hltb z0, keepc (by go_grown) hgl z1, keepc (by go_grown) hgl z2, keepc (by go_grown) hbw d6, keepc (by go_grown) hbw d7, keepc (by go_grown) hbw f6, keepc (by go_grown) hbw f7⟩
            clear hK K
            (try simp only [Act.put, List.setIfInBounds_toArray, List.set_cons_zero, List.set_cons_succ])
            refine tL 4 (some 16) ?_
            refine tL 5 (some 17) ?_
            refine tL 6 (some 18) ?_
            refine tL 7 (some 19) ?_
            refine tL 8 (some 20) ?_
            refine tL 9 (some 21) ?_
            refine tL 10 (some 22) ?_
            refine tL 11 (some 23) ?_
            refine tL 12 (some 24) ?_
            refine tL 13 (some 25) ?_
            refine tL 14 (some 26) ?_
            refine tL 15 (some 27) ?_
            refine tL 16 (some 28) ?_
            refine tL 17 (some 29) ?_
            refine tL 18 (some 30) ?_
            refine tL 19 (some 31) ?_
            refine tL 20 (some 32) ?_
            refine tL 21 (some 33) ?_
            refine wpAnyH_done (by kernel_rfl) ?_ _
            clear hHeld
            go_wp2_with fail
            go_ret
            exact ⟨BoolIs.yes (fun hall => HNI.out (hall t (by omega))), HBB.out.trans (Below.mono (show Below wb.heap.size wb _ by go_grown) HBB.out.size)⟩
        · have q1 : (i2 == i1) = false := by simpa using hi
          have HNI := Go.Lib.hid (show ¬ boundN M.ns (M.xs.getD t default) from fun hh => by rw [← HBD.out] at hh; have h4 := ((boundN_iff _ _).1 hh).2; simp only at h4; rw [HS3.out, HS4.out] at h4; simp only [Prod.mk.injEq] at h4; exact hi h4.1.symm)
          refine wp_region_held_drew (S := (fun w' => w'.cell? ⟨w.heap.size, 0, none⟩ = some (.slice (some ⟨b, off, none⟩) l0 p0) ∧ w'.cell? ⟨g, 0, none⟩ = some (.int .i64 p) ∧ w'.cell? ⟨g, 1, none⟩ = some (.int .i64 r) ∧ w'.cell? ⟨b, off + p * 9 + 6, none⟩ = some (.int .i64 i1) ∧ w'.cell? ⟨b, off + p * 9 + 7, none⟩ = some (.int .i64 w1) ∧ w'.cell? ⟨b, off + r * 9 + 6, none⟩ = some (.int .i64 i2) ∧ w'.cell? ⟨b, off + r * 9 + 7, none⟩ = some (.int .i64 w2))) (by kernel_rfl) ?_ (fun hHeld => ?_)
          · exact ⟨keepc (by go_grown) hltb z0, keepc (by go_grown) hgl z1, keepc (by go_grown) hgl z2, keepc (by go_grown) hbw d6, keepc (by go_grown) hbw d7, keepc (by go_grown) hbw f6, keepc (by go_grown) hbw f7⟩
          refine tL 0 (some 12) ?_
          refine tL 1 (some 13) ?_
          refine tL 2 (some 14) ?_
          refine wpAnyH_ready (rs := [3]) (by kernel_rfl) (by simp) ?_
          refine AllReadyH.cons (o := _) rfl (fun K hK => ?_) AllReadyH.nil
          go_simp
          refine (c_bindPlacesOk ⟨(p : Int), (r : Int)⟩ _ (Nat.le_trans hBb (by go_size)) ((HNB.out.rows.below (Below.mono (show Below wb.heap.size wb _ by go_grown) hBb)).nodes)).mono ?_; rintro e w2 ⟨hbi, hB2⟩; obtain rfl := boolIs_t HPL.out hbi; clear hbi; have hb2 : Below wb.heap.size wb w2 := bstep (by go_grown) (Nat.le_refl _) hB2; have ht2 := hb2.size; clear hB2
          (try go_wp2_with fail)
          (try clear hHeld)
          refine hK.out _ _ ?_ (fun hHeld => ?_)
          · exact ⟨keepc (by go_grown) hltb z0, keepc (by go_grown) hgl z1, keepc (by go_grown) hgl z2, keepc (by go_grown) hbw d6, keepc (by go_grown) hbw d7, keepc (by go_grown) hbw f6, keepc (by go_grown) hbw f7⟩
          clear hK K
          (try simp only [Act.put, List.setIfInBounds_toArray, List.set_cons_zero, List.set_cons_succ])
          refine tL 4 (some 16) ?_
          refine tL 5 (some 17) ?_
          refine tL 6 (some 18) ?_
          refine tL 7 (some 19) ?_
          refine tL 8 (some 20) ?_
          refine tL 9 (some 21) ?_
          refine tL 10 (some 22) ?_
          refine tL 11 (some 23) ?_
          refine tL 12 (some 24) ?_
          refine tL 13 (some 25) ?_
          refine tL 14 (some 26) ?_
          refine tL 15 (some 27) ?_
          refine tL 16 (some 28) ?_
          refine tL 17 (some 29) ?_
          refine tL 18 (some 30) ?_
          refine tL 19 (some 31) ?_
          refine tL 20 (some 32) ?_
          refine tL 21 (some 33) ?_
          refine wpAnyH_done (by kernel_rfl) ?_ _
          clear hHeld
          go_wp2_with fail
          go_ret
          exact ⟨BoolIs.yes (fun hall => HNI.out (hall t (by omega))), HBB.out.trans (Below.mono (show Below wb.heap.size wb _ by go_grown) HBB.out.size)⟩
      · have HPL := Go.Lib.hid hpl
        have HNI := Go.Lib.hid (show ¬ boundN M.ns (M.xs.getD t default) from fun hh => by rw [← HBD.out] at hh; exact HPL.out ((boundN_iff _ _).1 hh).1)
        clear hpl
        refine wp_region_held_drew (S := (fun w' => w'.cell? ⟨w.heap.size, 0, none⟩ = some (.slice a0 l0 p0) ∧ w'.cell? ⟨g, 0, none⟩ = some (.int .i64 st) ∧ w'.cell? ⟨g, 1, none⟩ = some (.int .i64 nd))) (by kernel_rfl) ?_ (fun hHeld => ?_)
        · exact ⟨keepc (by go_grown) hltb z0, keepc (by go_grown) hgl z1, keepc (by go_grown) hgl z2⟩
        refine tL 0 (some 12) ?_
        refine tL 1 (some 13) ?_
        refine tL 2 (some 14) ?_
        refine wpAnyH_ready (rs := [3]) (by kernel_rfl) (by simp) ?_
        refine AllReadyH.cons (o := _) rfl (fun K hK => ?_) AllReadyH.nil
        go_simp
        refine (c_bindPlacesOk ⟨st, nd⟩ _ (Nat.le_trans hBb (by go_size)) ((HNB.out.rows.below (Below.mono (show Below wb.heap.size wb _ by go_grown) hBb)).nodes)).mono ?_; rintro e w2 ⟨hbi, hB2⟩; obtain rfl := boolIs_f HPL.out hbi; clear hbi; have hb2 : Below wb.heap.size wb w2 := bstep (by go_grown) (Nat.le_refl _) hB2; have ht2 := hb2.size; clear hB2
        (try go_wp2_with fail)
        (try clear hHeld)
        refine hK.out _ _ ?_ (fun hHeld => ?_)
        · exact ⟨keepc (by go_grown) hltb z0, keepc (by go_grown) hgl z1, keepc (by go_grown) hgl z2⟩
        clear hK K
        (try simp only [Act.put, List.setIfInBounds_toArray, List.set_cons_zero, List.set_cons_succ])
        refine tL 4 (some 16) ?_
        refine tL 5 (some 17) ?_
        refine tU 6 (some 18) ?_
        refine tU 7 (some 19) ?_
        refine tU 8 (some 20) ?_
        refine tU 9 (some 21) ?_
        refine tU 10 (some 22) ?_
        refine tU 11 (some 23) ?_
        refine tU 12 (some 24) ?_
        refine tU 13 (some 25) ?_
        refine tU 14 (some 26) ?_
        refine tU 15 (some 27) ?_
        refine tU 16 (some 28) ?_
        refine tU 17 (some 29) ?_
        refine tU 18 (some 30) ?_
        refine tU 19 (some 31) ?_
        refine tU 20 (some 32) ?_
        refine tL 21 (some 33) ?_
        refine wpAnyH_done (by kernel_rfl) ?_ _
        clear hHeld
        go_wp2_with fail
        go_ret
        exact ⟨BoolIs.yes (fun hall => HNI.out (hall t (by omega))), HBB.out.trans (Below.mono (show Below wb.heap.size wb _ by go_grown) HBB.out.size)⟩
    · have hti : ¬ (t : Int) < l2 := by omega
      go_wp2_with fail
      go_ret
      exact ⟨BoolIs.no (fun hh => hh (fun y hy => HNO.out y (by omega))), HB.out⟩

set_option maxHeartbeats 8000000 in
theorem c_hasBadInit {B : Nat} {s0 s1 s2 s3 s4 : SL} {M : MD} (w : World) (hBw : B ≤ w.heap.size) (h : ModelAt B w s0 s1 s2 s3 s4 M) (hg : nodesGood M.ns) (h60 : s0.len ≤ 60) :
    Calls Tryz.prog 35 #[.agg (mcells s0 s1 s2 s3 s4).toArray] w fun e w' => BoolIs (¬ initsOk M) e ∧ Below w.heap.size w w' := by
  have HMA := Go.Lib.hid h
  have HN := Go.Lib.hid h.ns
  have HI := Go.Lib.hid h.is
  have hl0 : M.ns.length = s0.len := h.ns.1
  have hll : M.is.length = s1.len := h.is.1
  have hm1 := Nat.le_trans h.is.2.1 h.is.2.2.1
  unfold maxLen at hm1
  have HGD := Go.Lib.hid hg
  clear h hg
  obtain ⟨a0, l0, p0⟩ := s0
  obtain ⟨a1, l1, p1⟩ := s1
  obtain ⟨a2, l2, p2⟩ := s2
  simp only [mcells] at *
  go_enter Tryz.func35, Tryz.ntmps35
  go_wp2_with fail
  go_loopw [8] (fun i wr => ∃ t : Nat, t ≤ l1 ∧ i = .int .i64 t ∧ (∀ y, y < t → initN M.ns (M.is.getD y default)) ∧ Boxed ⟨a0, l0, p0⟩ ⟨a1, l1, p1⟩ ⟨a2, l2, p2⟩ s3 s4 w wr) (fun i _ => l1 - (intOf i).toNat)
  case atStart => exact ⟨0, by omega, rfl, fun t h => by omega, Boxed.new _ _ _ _ _ _ _⟩
  case round =>
    obtain ⟨t, ht, rfl, hno, HX0⟩ := hrel
    have HNO := Go.Lib.hid hno
    have HXR := Go.Lib.hid HX0
    obtain ⟨hlt, -, -, -, -, -, hBk⟩ := HX0
    have HB := Go.Lib.hid hBk
    clear hno hBk
    by_cases htl : t < l1
    · have hti : (t : Int) < l1 := by omega
      obtain ⟨bd, bb, bo, hbd, hbok, rfl, hbB, e0, e1⟩ := bind_at (HI.out.below (HB.out.mono hBw)) htl
      have HBD := Go.Lib.hid hbd
      clear hbd hbok
      obtain ⟨st, nd⟩ := bd
      simp only at e0 e1
      go_upto_region 4 with fail
      refine code_gen (R := fun wb => Boxed ⟨a0, l0, p0⟩ ⟨some ⟨bb, bo, none⟩, l1, p1⟩ ⟨a2, l2, p2⟩ s3 s4 w wb ∧ wr.heap.size < wb.heap.size ∧ wb.cell? ⟨wr.heap.size, 0, none⟩ = some (.int .i64 st) ∧ wb.cell? ⟨wr.heap.size, 1, none⟩ = some (.int .i64 nd)) ⟨HXR.out.below (show Below wr.heap.size wr _ by go_grown), by simp, by simp, by simp⟩ ?_
      rintro wb ⟨hbox, hgl, z1, z2⟩
      have HWB := Go.Lib.hid hbox
      obtain ⟨hltb, z0, -, -, -, -, hBb0⟩ := hbox
      have HBB := Go.Lib.hid hBb0
      have hBb : B ≤ wb.heap.size := Nat.le_trans hBw hBb0.size
      have HNB := Go.Lib.hid ((HN.out.rows.below (HBB.out.mono hBw)).nodes)
      generalize hgg : wr.heap.size = g at *
      clear hBb0 e0 e1 hgg HXR HB hlt
      go_wp2_with fail
      refine (c_bindPlacesOk ⟨st, nd⟩ wb hBb HNB.out).mono ?_
      rintro e w1 ⟨hb1, hB1⟩
      have HW1 := Go.Lib.hid (HWB.out.below hB1)
      have y0 := keepc hB1 hltb z0
      have y1 := keepc hB1 hgl z1
      have y2 := keepc hB1 hgl z2
      have hg1 := Nat.lt_of_lt_of_le hgl hB1.size
      have hl1 := Nat.lt_of_lt_of_le hltb hB1.size
      have hB1b : B ≤ w1.heap.size := Nat.le_trans hBb hB1.size
      have HN1 := Go.Lib.hid ((HNB.out.rows.below (hB1.mono hBb)).nodes)
      clear hB1 z0 z1 z2
      by_cases hpl : plcN M.ns ⟨st, nd⟩
      · obtain rfl := boolIs_t hpl hb1
        clear hb1
        have HPL := Go.Lib.hid hpl
        obtain ⟨⟨hs1, hs2⟩, -, hn1, hn2⟩ := hpl
        simp only at hs1 hs2 hn1 hn2
        obtain ⟨p, rfl⟩ : ∃ p : Nat, st = p := ⟨st.toNat, by omega⟩
        obtain ⟨r, rfl⟩ : ∃ r : Nat, nd = r := ⟨nd.toNat, by omega⟩
        go_wp2_with fail
        refine (c_initSortOk p r w1 hB1b HN1.out (by omega) (by omega)).mono ?_
        rintro e w2 ⟨hb2, hB2⟩
        have HW2 := Go.Lib.hid (HW1.out.below hB2)
        have x0 := keepc hB2 hl1 y0
        have x1 := keepc hB2 hg1 y1
        have x2 := keepc hB2 hg1 y2
        have hB2b : B ≤ w2.heap.size := Nat.le_trans hB1b hB2.size
        have HN2 := Go.Lib.hid ((HN1.out.rows.below (hB2.mono hB1b)).nodes)
        clear hB2 y0 y1 y2
        by_cases his : isrtN M.ns p r
        · obtain rfl := boolIs_t his hb2
          have HIS := Go.Lib.hid his
          clear hb2 his
          go_wp2_with fail
          refine (c_hangsOnRun r w2 hB2b HN2.out HGD.out h60 (by omega)).mono ?_
          rintro e w3 ⟨hb3, hB3⟩
          have HW3 := Go.Lib.hid (HW2.out.below hB3)
          clear hB3 x0 x1 x2
          by_cases hfx : fixedN M.ns r
          · obtain rfl := boolIs_f (fun h => h hfx) hb3
            clear hb3
            have HY := Go.Lib.hid (show ∀ y, y < t + 1 → initN M.ns (M.is.getD y default) from fun y hy => by
              rcases Nat.lt_or_ge y t with h | h
              · exact HNO.out y h
              · obtain rfl : y = t := by omega
                rw [← HBD.out]; exact (initN_iff _ _ _).2 ⟨HPL.out, HIS.out, hfx⟩)
            clear hfx
            go_wp2_with fail
            go_roundw
            case rel => exact ⟨t + 1, by omega, by go_num, HY.out, HW3.out⟩
            case measure => simp [intOf] <;> omega
          · obtain rfl := boolIs_t (P := ¬ fixedN M.ns r) hfx hb3
            clear hb3
            have HNI := Go.Lib.hid (show ¬ initN M.ns (M.is.getD t default) from fun hh => by rw [← HBD.out] at hh; exact hfx ((initN_iff _ _ _).1 hh).2.2)
            clear hfx
            go_wp2_with fail
            go_ret
            exact ⟨BoolIs.yes (fun hall => HNI.out (hall t (by omega))), HW3.out.2.2.2.2.2.2⟩
        · obtain rfl := boolIs_f his hb2
          clear hb2
          have HNI := Go.Lib.hid (show ¬ initN M.ns (M.is.getD t default) from fun hh => by rw [← HBD.out] at hh; exact his ((initN_iff _ _ _).1 hh).2.1)
          clear his
          go_wp2_with fail
          go_ret
          exact ⟨BoolIs.yes (fun hall => HNI.out (hall t (by omega))), HW2.out.2.2.2.2.2.2⟩
      · obtain rfl := boolIs_f hpl hb1
        clear hb1
        have HNI := Go.Lib.hid (show ¬ initN M.ns (M.is.getD t default) from fun hh => by rw [← HBD.out] at hh; exact hpl (initN_plc hh))
        clear hpl
        go_wp2_with fail
        go_ret
        exact ⟨BoolIs.yes (fun hall => HNI.out (hall t (by omega))), HW1.out.2.2.2.2.2.2⟩
    · have hti : ¬ (t : Int) < l1 := by omega
      go_wp2_with fail
      go_ret
      exact ⟨BoolIs.no (fun hh => hh (fun y hy => HNO.out y (by omega))), HB.out⟩
end Go.Proofs.YtbkcecilbpngcaaGreat
