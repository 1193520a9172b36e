/-
  Parts: ValP0, ValO, ValU0, ValU, ValU2, ValU3.
-/
import Derived.Test.YtdfcjfielkpkiaaGreatRows
import Derived.Test.YtdfcjfielkpkiaaGreatPaA
import Derived.Test.YtdfcjfielkpkiaaGreatNodeM
import Derived.Test.YtdfcjfielkpkiaaGreatNames
import Derived.Test.YtdfcjfielkpkiaaGreatNodeL
import Derived.Test.YtdfcjfielkpkiaaGreatPaG
import Derived.Test.YtdfcjfielkpkiaaGreatResP
import Derived.Test.YtdfcjfielkpkiaaGreatNSortI
import Derived.Test.YtdfcjfielkpkiaaGreatModD
import Derived.Test.YtdfcjfielkpkiaaGreatModA
import Derived.Test.YtdfcjfielkpkiaaGreatModB
import Derived.Test.YtdfcjfielkpkiaaGreatModE
import Derived.Test.YtdfcjfielkpkiaaGreatModF
import Derived.Test.YtdfcjfielkpkiaaGreatPaF
import Derived.Test.YtdfcjfielkpkiaaGreatModQ
import Derived.Test.YtdfcjfielkpkiaaGreatModU
import Derived.Test.YtdfcjfielkpkiaaGreatModV
import Derived.Test.YtdfcjfielkpkiaaGreatModW
import Derived.Test.YtdfcjfielkpkiaaGreatLawMC
import Derived.Test.YtdfcjfielkpkiaaGreatPaH
import Derived.WalkKit
import Derived.ProofKit
import Derived.OpenShut
import Derived.WalkSpells
import Derived.WalkLawsBesides
import Derived.Outline
import Derived.BigQuiet
import Derived.Handy
import Derived.LoopTactic
import Derived.Deep.Light
import Derived.Deep.RegionWith
import Derived.Deep.RegionHeld3
import Derived.Deep.DeepCutAuto
import Derived.Lib.Hide
import Derived.Maps.OwnRows
import Derived.Deep.Onto
import Derived.OneCell
import Derived.StillTailTactics
import Derived.Deep.AppendLies
import Derived.Deep.RegionLaw
import Derived.Test.YtdfcjfielkpkiaaGreatModK
/-! Values as a number: the mathematics. -/
namespace Go.Proofs.YtdfcjfielkpkiaaGreat
open Go.ChangeShapes Go.WideShapes Go.ChangeAt Go.RowKit Go.Maps
set_option linter.unusedVariables false
set_option maxRecDepth 100000


/-- The number of the first cells of a value, the lowest bit first, and its bits. -/
def pk (sw : Int) (zs : List Int) (c a : Int) : Nat → Int × Int
  | 0 => (c, a)
  | j + 1 => ((pk sw zs c a j).1 + zs.getD j 0 * 2 ^ (pk sw zs c a j).2.toNat, (pk sw zs c a j).2 + sw)
/-- .. of the first values. -/
def pks (P : List Int) (ns : List ND) (zss : List (List Int)) : Nat → Int × Int
  | 0 => (0, 0)
  | k + 1 => pk (ns.getD (P.getD k 0).toNat default).sw (zss.getD k []) (pks P ns zss k).1 (pks P ns zss k).2 (zss.getD k []).length
/-- The bits of the first values. -/
def sumB (P : List Int) (ns : List ND) : Nat → Int
  | 0 => 0
  | k + 1 => sumB P ns k + bitsN (ns.getD (P.getD k 0).toNat default).si (ns.getD (P.getD k 0).toNat default).sw
def packN (kind : Int) (ns : List ND) (zss : List (List Int)) : Int := (pks (plcs kind ns ns.length) ns zss zss.length).1
theorem or_pack {c z : Int} {q : Nat} (h0 : 0 ≤ c) (h1 : c < 2 ^ q) (hz : 0 ≤ z) (hc : c < 65536) (hb : z * 2 ^ q < 65536) : bits .or .i64 c (z * 2 ^ q) = c + z * 2 ^ q := by
  have hp := p2_pos q
  have hzp : 0 ≤ z * 2 ^ q := Int.mul_nonneg hz (by omega)
  rw [i64_or _ _ h0 hc hzp hb]
  obtain ⟨C, rfl⟩ : ∃ C : Nat, c = C := ⟨c.toNat, by omega⟩
  obtain ⟨Z, rfl⟩ : ∃ Z : Nat, z = Z := ⟨z.toNat, by omega⟩
  have h1' : C < 2 ^ q := by rw [← p2_cast] at h1; exact Int.ofNat_lt.1 h1
  have e : ((Z : Int) * 2 ^ q).toNat = Z * 2 ^ q := by rw [← p2_cast, ← Int.natCast_mul, Int.toNat_natCast]
  rw [e, Int.toNat_natCast, ← Nat.shiftLeft_eq, Nat.or_comm, ← Nat.shiftLeft_add_eq_or_of_lt h1', Nat.shiftLeft_eq, Int.natCast_add, Int.natCast_mul, p2_cast]
  exact Int.add_comm _ _
theorem pack_step {c p n z : Int} (h0 : 0 ≤ c) (h1 : c < 2 ^ p.toNat) (hp : 0 ≤ p) (hz : WOk n z) : 0 ≤ z * 2 ^ p.toNat ∧ c + z * 2 ^ p.toNat < 2 ^ (p + n).toNat := by
  obtain ⟨a1, a2, a3, a4⟩ := hz
  have hX := p2_pos p.toNat
  have e : (2 : Int) ^ (p + n).toNat = 2 ^ p.toNat * 2 ^ n.toNat := by rw [Int.toNat_add hp (by omega), p2_add]
  have h5 : z * 2 ^ p.toNat ≤ (2 ^ n.toNat - 1) * 2 ^ p.toNat := Int.mul_le_mul_of_nonneg_right (by omega) (by omega)
  rw [Int.sub_mul, Int.one_mul, Int.mul_comm (2 ^ n.toNat)] at h5
  rw [e]
  exact ⟨Int.mul_nonneg a3 (by omega), by omega⟩
theorem pk_ok {sw c a : Int} {zs : List Int} (h0 : 0 ≤ c) (h1 : c < 2 ^ a.toNat) (ha : 0 ≤ a) {j : Nat} (hs : 0 ≤ sw ∨ j = 0) (hj : ∀ i, i < j → WOk sw (zs.getD i 0)) :
    (pk sw zs c a j).2 = a + j * sw ∧ 0 ≤ (pk sw zs c a j).2 ∧ 0 ≤ (pk sw zs c a j).1 ∧ (pk sw zs c a j).1 < 2 ^ (pk sw zs c a j).2.toNat := by
  induction j with
  | zero => simp [pk]; exact ⟨ha, h0, h1⟩
  | succ j ih =>
    have hw := hj j (by omega)
    have hs1 : 0 ≤ sw := by have := hw.1; omega
    obtain ⟨i1, i2, i3, i4⟩ := ih (.inl hs1) (fun i hi => hj i (by omega))
    obtain ⟨p1, p2⟩ := pack_step i3 i4 i2 hw
    simp only [pk]
    generalize (pk sw zs c a j).1 = c' at *
    generalize (pk sw zs c a j).2 = p' at *
    refine ⟨?_, by omega, by omega, p2⟩
    rw [Int.natCast_add, Int.add_mul, i1]
    omega
theorem sumB_le {P : List Int} {ns : List ND} {k m : Nat} (h : k ≤ m) : sumB P ns k ≤ sumB P ns m := by
  induction h with
  | refl => exact Int.le_refl _
  | @step m' _ ih => simp only [sumB]; have := (bitsN_range (ns.getD (P.getD m' 0).toNat default).si (ns.getD (P.getD m' 0).toNat default).sw).1; omega
theorem sumB_app {P : List Int} {x : Int} {ns : List ND} {k : Nat} (h : k ≤ P.length) : sumB (P ++ [x]) ns k = sumB P ns k := by
  induction k with
  | zero => rfl
  | succ k ih =>
    have e : (P ++ [x]).getD k 0 = P.getD k 0 := by simp only [List.getD, List.getElem?_append_left (show k < P.length by omega)]
    simp only [sumB, ih (by omega), e]
theorem sumB_plcs (kind : Int) (ns : List ND) (n : Nat) (h : n ≤ ns.length) : sumB (plcs kind ns n) ns (plcs kind ns n).length = allBits kind (ns.take n) := by
  induction n with
  | zero => simp [plcs, sumB, allBits]
  | succ n ih =>
    have hn : n < ns.length := by omega
    have hg : ns.getD n default = ns[n] := by simp [List.getD, List.getElem?_eq_getElem hn]
    rw [allBits_take kind ns n hn]
    unfold plcs
    split
    · rename_i hk
      rw [hg] at hk
      have e : (plcs kind ns n ++ [(n : Int)]).getD (plcs kind ns n).length 0 = n := by simp [List.getD]
      rw [List.length_append, List.length_singleton]
      simp only [sumB]
      rw [sumB_app (Nat.le_refl _), ih (by omega), e, kb_yes hk, Int.toNat_natCast, hg]
    · rename_i hk
      rw [hg] at hk
      rw [ih (by omega), kb_no hk, Int.add_zero]
theorem pks_ok {P : List Int} {ns : List ND} {zss : List (List Int)} (h : FitsP P ns zss) {k : Nat} (hk : k ≤ zss.length) :
    (pks P ns zss k).2 = sumB P ns k ∧ 0 ≤ (pks P ns zss k).2 ∧ 0 ≤ (pks P ns zss k).1 ∧ (pks P ns zss k).1 < 2 ^ (pks P ns zss k).2.toNat := by
  induction k with
  | zero => simp [pks, sumB]
  | succ k ih =>
    obtain ⟨i1, i2, i3, i4⟩ := ih (by omega)
    have v := h.2 k (by omega)
    have hs : 0 ≤ (ns.getD (P.getD k 0).toNat default).sw ∨ (zss.getD k []).length = 0 := by
      by_cases h0 : (zss.getD k []).length = 0
      · exact .inr h0
      · have := (v.2 0 (by omega)).1; exact .inl (by omega)
    obtain ⟨j1, j2, j3, j4⟩ := pk_ok i3 i4 i2 hs v.2
    refine ⟨?_, j2, j3, j4⟩
    simp only [pks, sumB]
    rw [j1, i1, v.1]
    rfl
/-- What a step of the packing is told. -/
def PkIn (c p n z : Int) : Prop := 0 ≤ c ∧ c < 2 ^ p.toNat ∧ 0 ≤ p ∧ p + n ≤ 8 ∧ WOk n z
theorem pack_at {kind : Int} {ns : List ND} {zss : List (List Int)} (hF : FitsN kind ns zss) (hb : allBits kind ns ≤ 8) {P : List Int} (hP : plcs kind ns ns.length = P) {k j : Nat} (hk : k < zss.length) (hj : j < (zss.getD k []).length) {nd : ND} (hnd : ns.getD (P.getD k 0).toNat default = nd) {z : Int} (hz : (zss.getD k []).getD j 0 = z) :
    PkIn (pk nd.sw (zss.getD k []) (pks P ns zss k).1 (pks P ns zss k).2 j).1 (pk nd.sw (zss.getD k []) (pks P ns zss k).1 (pks P ns zss k).2 j).2 nd.sw z := by
  subst hP; subst hnd; subst hz
  obtain ⟨i1, i2, i3, i4⟩ := pks_ok hF (k := k) (by omega)
  have v := hF.2 k hk
  have hw := v.2 j hj
  have hs : 0 ≤ (ns.getD ((plcs kind ns ns.length).getD k 0).toNat default).sw := by have := hw.1; omega
  obtain ⟨j1, j2, j3, j4⟩ := pk_ok i3 i4 i2 (.inl hs) (j := j) (fun i hi => v.2 i (by omega))
  refine ⟨j3, j4, j2, ?_, hw⟩
  have e1 : sumB (plcs kind ns ns.length) ns (k + 1) ≤ allBits kind ns := by
    have h1 := sumB_plcs kind ns ns.length (Nat.le_refl _)
    rw [List.take_length] at h1
    rw [← h1]
    exact sumB_le (by have := hF.1; omega)
  have e2 : (((j : Int) + 1) * (ns.getD ((plcs kind ns ns.length).getD k 0).toNat default).sw) ≤ ((zss.getD k []).length : Int) * (ns.getD ((plcs kind ns ns.length).getD k 0).toNat default).sw := Int.mul_le_mul_of_nonneg_right (by omega) hs
  rw [Int.add_mul, Int.one_mul] at e2
  simp only [sumB] at e1
  unfold bitsN at e1
  rw [← v.1] at e1
  rw [j1, i1]
  omega
theorem PkIn.small {c p n z : Int} (h : PkIn c p n z) : 0 ≤ z * 2 ^ p.toNat ∧ z * 2 ^ p.toNat < 256 ∧ c < 256 ∧ c + z * 2 ^ p.toNat < 256 ∧ p ≤ 8 ∧ 1 ≤ n ∧ n ≤ 8 ∧ 0 ≤ z := by
  obtain ⟨h0, h1, h2, h3, h4⟩ := h
  obtain ⟨p1, p2⟩ := pack_step h0 h1 h2 h4
  have a := h4.1
  have hm := p2_mono (i := (p + n).toNat) (j := 8) (by omega)
  have e : (2 : Int) ^ 8 = 256 := by decide
  have z0 := h4.2.2.1
  omega
theorem PkIn.or {c p n z : Int} (h : PkIn c p n z) : bits .or .i64 c (z * 2 ^ p.toNat) = c + z * 2 ^ p.toNat := by
  have := h.small
  exact or_pack h.1 h.2.1 (by omega) (by omega) (by omega)
def PackIs (kind : Int) (M : MD) (zss : List (List Int)) (c : Int) (b : Bool) : Prop := (FitM kind M zss ∧ c = packN kind M.ns zss ∧ b = true) ∨ (¬ FitM kind M zss ∧ c = 0 ∧ b = false)
theorem PackIs.inj {kind : Int} {M : MD} {zss : List (List Int)} {a c : Int} {b d : Bool} (h : PackIs kind M zss a b) (k : PackIs kind M zss c d) : a = c ∧ b = d := by
  rcases h with ⟨h1, rfl, rfl⟩ | ⟨h1, rfl, rfl⟩ <;> rcases k with ⟨k1, rfl, rfl⟩ | ⟨k1, rfl, rfl⟩
  · exact ⟨rfl, rfl⟩
  · exact absurd h1 k1
  · exact absurd k1 h1
  · exact ⟨rfl, rfl⟩
theorem code0_bits {M : MD} (h : CodeIs M 0) : allBits 36 M.ns ≤ 8 ∧ allBits 35 M.ns ≤ 8 := by
  cases h
  rename_i h6
  omega

/-- Two cells of the program's packer: the number and its bits. -/
def PKW (b : Nat) (w2 wr : World) (c p : Int) : Prop := wr.heap[b]? = some (.cells #[.int .i64 c] 3 (0, 0)) ∧ wr.heap[b + 1]? = some (.cells #[.int .i64 p] 3 (0, 0)) ∧ (∀ x, b + 1 < x → x < w2.heap.size → wr.heap[x]? = w2.heap[x]?) ∧ Below b w2 wr
theorem PKW.trans {b : Nat} {wa wb wc : World} {c p c' p' : Int} (h : PKW b wa wb c p) (k : PKW b wb wc c' p') : PKW b wa wc c' p' :=
  ⟨k.1, k.2.1, fun x hx hs => (k.2.2.1 x hx (Nat.lt_of_lt_of_le hs h.2.2.2.size)).trans (h.2.2.1 x hx hs), h.2.2.2.trans k.2.2.2⟩

set_option maxHeartbeats 4000000 in
theorem c_bitPacker (w : World) :
    Calls Tryz.prog 208 #[] w fun e w' => e = .returned (.func (.func 219) #[] #[.pointer (some ⟨w.heap.size, 0, none⟩), .pointer (some ⟨w.heap.size + 1, 0, none⟩)]) ∧ w'.heap[w.heap.size]? = some (.cells #[.int .i64 0] 3 (0, 0)) ∧ w'.heap[w.heap.size + 1]? = some (.cells #[.int .i64 0] 3 (0, 0)) ∧ w.heap.size + 1 < w'.heap.size ∧ Below w.heap.size w w' := by
  have hmf : ∀ (fn : Fn) (first cap : Array Value) (w : World), (Instr.makeFunc fn first cap).run Tryz.prog w = .ok (.func fn first cap) w := fun _ _ _ _ => rfl
  go_enter Tryz.func208, Tryz.ntmps208
  go_upto_region 2 with fail
  refine code_gen (R := fun wb => wb.heap[w.heap.size]? = some (.cells #[.int .i64 0] 3 (0, 0)) ∧ wb.heap[w.heap.size + 1]? = some (.cells #[.int .i64 0] 3 (0, 0)) ∧ w.heap.size + 1 < wb.heap.size ∧ Below w.heap.size w wb) ⟨?_, ?_, by simp, by go_grown⟩ ?_
  · first
      | (rw [heap_setCell_other _ _ _ _ (by simp)]; exact one_setCell (v := .int .i64 0) (by rw [(MapKept.heap_alloc _ _).2 _ (alloc_ltS _ _)]; exact (MapKept.heap_alloc _ _).1))
      | (rw [(MapKept.heap_alloc _ _).2 _ (alloc_ltS _ _)]; exact (MapKept.heap_alloc _ _).1)
      | simp
  · first
      | (have e : w.heap.size + 1 = (w.alloc (.cells #[.int .i64 0] 3)).heap.size := by show _ = (w.heap.push _).size; simp
         rw [e]; exact one_setCell (v := .int .i64 0) (by rw [heap_setCell_other _ _ _ _ (by simp)]; exact (MapKept.heap_alloc _ _).1))
      | (have e : w.heap.size + 1 = (w.alloc (.cells #[.int .i64 0] 3)).heap.size := by show _ = (w.heap.push _).size; simp
         rw [e]; exact (MapKept.heap_alloc _ _).1)
      | simp
  rintro w1 ⟨h1, h2, h3, h4⟩
  have H1 := Go.Lib.hid h1
  have H2 := Go.Lib.hid h2
  have H4 := Go.Lib.hid h4
  clear h1 h2 h4
  go_wp2_with fail
  go_ret
  exact ⟨rfl, H1.out, H2.out, h3, H4.out⟩

set_option maxHeartbeats 4000000 in
theorem c_packOne (b : Nat) (c p n z : Int) (w : World) (h1 : w.heap[b]? = some (.cells #[.int .i64 c] 3 (0, 0))) (h2 : w.heap[b + 1]? = some (.cells #[.int .i64 p] 3 (0, 0))) (hk : PkIn c p n z) :
    Calls Tryz.prog 219 #[.int .i64 n, .int .i64 z, .pointer (some ⟨b, 0, none⟩), .pointer (some ⟨b + 1, 0, none⟩)] w fun e w' => e = .returned (.int .i64 (c + z * 2 ^ p.toNat)) ∧ PKW b w w' (c + z * 2 ^ p.toNat) (p + n) := by
  obtain ⟨q0, q1, q2, q3, q4, q5, q6, q7⟩ := hk.small
  have hp0 : 0 ≤ p := hk.2.2.1
  have hpn : ¬ p < 0 := by omega
  have hmin : min p.toNat 64 = p.toNat := by omega
  have hwr : wrap64 (z * 2 ^ p.toNat) = z * 2 ^ p.toNat := IntWalk.wrap64_in _ (by omega)
  have hor := hk.or
  have HK := Go.Lib.hid hk
  have H1 := Go.Lib.hid h1
  have H2 := Go.Lib.hid h2
  have c1 := cell_of_one h1
  have c2 := cell_of_one h2
  have f1 := free_of_one h1
  have f2 := free_of_one h2
  have hs := lt_of_block h2
  clear h1 h2 hk
  go_enter Tryz.func219, Tryz.ntmps219
  go_wp2_with fail
  go_region
  all_goals (try rw [hmin])
  all_goals (try rw [hwr])
  all_goals (try rw [hor])
  all_goals (go_upto_region 2 with fail)
  all_goals (refine code_gen (R := fun wb => PKW b w wb (c + z * 2 ^ p.toNat) p) ⟨one_setCell H1.out, (heap_setCell_other _ _ _ _ (by simp)).trans H2.out, fun x hx _ => heap_setCell_other _ _ _ _ (by simp; omega), by first | exact (Below.refl b w).setCell (by simp) _ | go_grown⟩ ?_)
  all_goals (clear c1 c2 f1 f2; rintro w1 hpk; have c1 := cell_of_one hpk.1; have c2 := cell_of_one hpk.2.1; have f2 := free_of_one hpk.2.1; have HP := Go.Lib.hid hpk; clear hpk)
  all_goals (go_wp2_with fail)
  all_goals go_ret
  all_goals exact ⟨rfl, (heap_setCell_other _ _ _ _ (by simp)).trans HP.out.1, one_setCell HP.out.2.1, fun x hx hs => (heap_setCell_other _ _ _ _ (by simp; omega)).trans (HP.out.2.2.1 x hx hs), HP.out.2.2.2.setCell (by simp) _⟩
end Go.Proofs.YtdfcjfielkpkiaaGreat

/-! Values in memory of one's own, and marks in them. -/
namespace Go.Proofs.YtdfcjfielkpkiaaGreat
open Go.ChangeShapes Go.WideShapes Go.ChangeAt Go.RowKit Go.Maps
set_option linter.unusedVariables false
set_option maxRecDepth 100000


theorem orow_block {w w' : World} {base n s : Nat} {t : TypeId} {v : Value} {xs : List Value} (h : w.ownsRow base t s v n xs) (hb : ∀ g, base ≤ g → g < w.heap.size → v.ownBlock = some g → w'.heap[g]? = w.heap[g]?) : w'.ownsRow base t s v n xs := by
  have hl := h.lt
  obtain ⟨h1, h2⟩ := h
  refine ⟨h1, ?_⟩
  rcases h2 with h2 | ⟨g, cap, cur, rfl, hbs, hg, h4⟩
  · exact .inl h2
  · exact .inr ⟨g, cap, cur, rfl, hbs, (hb g hbs (hl g rfl).2 rfl).trans hg, h4⟩
/-- Values in memory of one's own: v is the slice of their headers; each header owns its numbers; no two lie in one block. -/
structure ValRow (base : Nat) (w : World) (v : Value) (xs : List (Value × List Int)) : Prop where
  row : w.ownsRow base 74 1 v xs.length (xs.map Prod.fst)
  own : ∀ p ∈ xs, w.ownsInts base 3 .i64 p.1 p.2
  ne : ∀ p ∈ xs, p.1.ownBlock = none ∨ p.1.ownBlock ≠ v.ownBlock
  dis : xs.Pairwise (fun p q => p.1.ownBlock = none ∨ p.1.ownBlock ≠ q.1.ownBlock)
/-- The blocks of such values. -/
def ValBlk (v : Value) (xs : List (Value × List Int)) (g : Nat) : Prop := v.ownBlock = some g ∨ ∃ p ∈ xs, p.1.ownBlock = some g
theorem ValRow.nil (base : Nat) (w : World) : ValRow base w (.slice none 0 0) [] := ⟨World.ownsRow_nil _ _ _ _, fun p hp => by simp at hp, fun p hp => by simp at hp, List.Pairwise.nil⟩
theorem ValRow.kept {base : Nat} {w w' : World} {v : Value} {xs : List (Value × List Int)} (h : ValRow base w v xs) (hb : ∀ g, base ≤ g → g < w.heap.size → ValBlk v xs g → w'.heap[g]? = w.heap[g]?) : ValRow base w' v xs :=
  ⟨orow_block h.row (fun g h1 h2 h3 => hb g h1 h2 (.inl h3)), fun p hp => own_block (h.own p hp) (fun g h1 h2 h3 => hb g h1 h2 (.inr ⟨p, hp, h3⟩)), h.ne, h.dis⟩
theorem ValRow.below {base : Nat} {w w' : World} {v : Value} {xs : List (Value × List Int)} (h : ValRow base w v xs) (hb : Below w.heap.size w w') : ValRow base w' v xs := h.kept (fun g _ h2 _ => hb.block g h2)
theorem ValRow.alloc {base : Nat} {w : World} {v : Value} {xs : List (Value × List Int)} (h : ValRow base w v xs) (o : Obj) : ValRow base (w.alloc o) v xs := h.kept (fun g _ h2 _ => Below.heap_alloc _ _ _ h2)
theorem ValRow.mono {base base' : Nat} {w : World} {v : Value} {xs : List (Value × List Int)} (h : ValRow base w v xs) (hb : base' ≤ base) : ValRow base' w v xs :=
  ⟨h.row.mono hb, fun p hp => ⟨(h.own p hp).1.mono hb, (h.own p hp).2⟩, h.ne, h.dis⟩
theorem ValRow.blk {base : Nat} {w : World} {v : Value} {xs : List (Value × List Int)} (h : ValRow base w v xs) {g : Nat} (hg : ValBlk v xs g) : base ≤ g ∧ g < w.heap.size := by
  rcases hg with hg | ⟨p, hp, hg⟩
  · exact h.row.lt g hg
  · exact (h.own p hp).1.lt g hg
theorem ValRow.touch {T : Nat → Prop} {base : Nat} {w w' : World} {v : Value} {xs : List (Value × List Int)} (h : ValRow base w v xs) (ht : Touch T w w') (hT : ∀ g, base ≤ g → g < w.heap.size → ¬ T g) : ValRow base w' v xs := h.kept (fun g h1 h2 _ => ht.block g h2 (hT g h1 h2))
/-- One more value, its numbers in a block that no other lies in. -/
theorem ValRow.push {base : Nat} {w w1 : World} {o : Obj} {v v' x : Value} {zs : List Int} {xs : List (Value × List Int)} (h : ValRow base w v xs) (hx : w.ownsInts base 3 .i64 x zs) (hf : ∀ g, x.ownBlock = some g → ¬ ValBlk v xs g)
    (hown : w1.ownsRow base 74 1 v' (xs.length + 1) (xs.map Prod.fst ++ [x])) (hg : (w.alloc o).grownBy w1 v.ownBlock) (hat : v'.ownBlock = v.ownBlock ∨ v'.ownBlock = some (w.alloc o).heap.size) : ValRow base w1 v' (xs ++ [(x, zs)]) := by
  have hlt := alloc_ltS w o
  have keep : ∀ g, g < w.heap.size → v.ownBlock ≠ some g → w1.heap[g]? = w.heap[g]? := fun g h1 h2 => (hg.block g (Nat.lt_trans h1 hlt) (fun e => h2 e.symm)).trans (Below.heap_alloc _ _ _ h1)
  have kp : ∀ (y : Value) (ys : List Int), w.ownsInts base 3 .i64 y ys → (y.ownBlock = none ∨ y.ownBlock ≠ v.ownBlock) → w1.ownsInts base 3 .i64 y ys := fun y ys hy hn => own_block hy (fun g _ h2 h3 => keep g h2 (fun e => by
    rcases hn with hn | hn
    · rw [hn] at h3; cases h3
    · exact hn (h3.trans e.symm)))
  have hxv : x.ownBlock = none ∨ x.ownBlock ≠ v.ownBlock := by
    cases hxb : x.ownBlock with
    | none => exact .inl rfl
    | some g => exact .inr (fun e => hf g hxb (.inl e.symm))
  have nv : ∀ (y : Value) (ys : List Int), w.ownsInts base 3 .i64 y ys → (y.ownBlock = none ∨ y.ownBlock ≠ v.ownBlock) → (y.ownBlock = none ∨ y.ownBlock ≠ v'.ownBlock) := fun y ys hy hn => by
    rcases hat with hat | hat
    · rw [hat]; exact hn
    · cases hyb : y.ownBlock with
      | none => exact .inl rfl
      | some g =>
        refine .inr (fun e => ?_)
        rw [hat] at e
        injection e with e
        have := (hy.1.lt g hyb).2
        omega
  refine ⟨by simpa using hown, fun p hp => ?_, fun p hp => ?_, ?_⟩
  · rcases List.mem_append.1 hp with hp | hp
    · exact kp _ _ (h.own p hp) (h.ne p hp)
    · simp at hp; subst hp; exact kp _ _ hx hxv
  · rcases List.mem_append.1 hp with hp | hp
    · exact nv _ _ (h.own p hp) (h.ne p hp)
    · simp at hp; subst hp; exact nv _ _ hx hxv
  · refine List.pairwise_append.2 ⟨h.dis, List.pairwise_singleton .., fun p hp q hq => ?_⟩
    simp at hq; subst hq
    cases hpb : p.1.ownBlock with
    | none => exact .inl rfl
    | some g => exact .inr (fun e => hf g e.symm (.inr ⟨p, hp, hpb⟩))
theorem orow_form {w : World} {base n s : Nat} {t : TypeId} {v : Value} {xs : List Value} (h : w.ownsRow base t s v n xs) : ∃ a cap, v = .slice a n cap ∧ n ≤ cap ∧ cap ≤ maxLen ∧ ((a = none ∧ n = 0 ∧ cap = 0) ∨ ∃ g, a = some ⟨g, 0, none⟩ ∧ base ≤ g ∧ g < w.heap.size) := by
  have hl := h.lt
  obtain ⟨h1, h2⟩ := h
  rcases h2 with ⟨rfl, rfl⟩ | ⟨g, cap, cur, rfl, hb, hg, hn, hm, hs, hx⟩
  · exact ⟨none, 0, rfl, Nat.le_refl _, Nat.zero_le _, .inl ⟨rfl, rfl, rfl⟩⟩
  · exact ⟨_, _, rfl, hn, hm, .inr ⟨g, rfl, hb, (hl g rfl).2⟩⟩
theorem ValRow.at_ {base : Nat} {w : World} {g n cap k : Nat} {xs : List (Value × List Int)} (h : ValRow base w (.slice (some ⟨g, 0, none⟩) n cap) xs) (hn : n = xs.length) (hk : k < n) :
    ∃ a cp zs, xs.getD k default = (.slice a zs.length cp, zs) ∧ w.cell? ⟨g, k, none⟩ = some (.slice a zs.length cp) ∧ w.ownsInts base 3 .i64 (.slice a zs.length cp) zs ∧ xs.getD k default ∈ xs := by
  subst hn
  have e : xs.getD k default = xs[k] := by simp [List.getD, hk]
  have hm : xs.getD k default ∈ xs := by rw [e]; exact List.getElem_mem ..
  have ho := h.own _ hm
  obtain ⟨a, cp, hf, -⟩ := own_form ho
  refine ⟨a, cp, (xs.getD k default).2, ?_, ?_, by rw [← hf]; exact ho, hm⟩
  · rw [← hf]
  · rw [h.row.cellAt k (by omega), ← hf, e]; simp [hk]
theorem ValRow.vals {base : Nat} {w : World} {a : Option Addr} {n cap : Nat} {xs : List (Value × List Int)} (h : ValRow base w (.slice a n cap) xs) (hn : n = xs.length) : ValsAt w.heap.size w a n cap (xs.map Prod.snd) := by
  subst hn
  have hr := h.row
  obtain ⟨a', cap', e, h1, h2, h3⟩ := orow_form hr
  simp only [Value.slice.injEq] at e
  obtain ⟨rfl, -, rfl⟩ := e
  have hx : ∀ p : Value × List Int, p ∈ xs → ∃ a cp, p.1 = .slice a p.2.length cp ∧ IntsAt w.heap.size w a p.2.length cp p.2 := fun p hp => by
    obtain ⟨a, cp, hf, -⟩ := own_form (h.own p hp)
    exact ⟨a, cp, hf, own_ints (hf ▸ h.own p hp) rfl⟩
  have hd : ∀ p : Value × List Int, p ∈ xs → ∃ v : VR, p.1 = .slice v.a v.len v.cap ∧ v.zs = p.2 ∧ v.lies w.heap.size w := fun p hp => by
    obtain ⟨a, cp, e1, e2⟩ := hx p hp
    exact ⟨⟨a, p.2.length, cp, p.2⟩, e1, rfl, e2⟩
  obtain ⟨vs, hvs⟩ : ∃ vs : List VR, vs.map VR.zs = xs.map Prod.snd ∧ vs.map (fun v => Value.slice v.a v.len v.cap) = xs.map Prod.fst ∧ ∀ v ∈ vs, v.lies w.heap.size w := by
    clear hr h3 h h1 h2 hx
    induction xs with
    | nil => exact ⟨[], rfl, rfl, fun v hv => by simp at hv⟩
    | cons p l ih =>
      obtain ⟨vs, h1, h2, h3⟩ := ih (fun q hq => hd q (List.mem_cons_of_mem _ hq))
      obtain ⟨v, e1, e2, e3⟩ := hd p (List.mem_cons_self ..)
      refine ⟨v :: vs, by simp [e2, h1], by simp [e1, h2], fun u hu => ?_⟩
      rcases List.mem_cons.1 hu with rfl | hu
      · exact e3
      · exact h3 u hu
  obtain ⟨hv1, hv2, hv3⟩ := hvs
  have hl : vs.length = xs.length := by have := congrArg List.length hv1; simpa using this
  refine ⟨vs, hv1, hl, h1, h2, hv3, fun e => ?_, ?_⟩
  · rcases h3 with ⟨-, -, h3⟩ | ⟨g, h3, -⟩
    · exact h3
    · rw [h3] at e; cases e
  · rcases h3 with ⟨-, h3, -⟩ | ⟨g, rfl, -, h3⟩
    · exact .inl h3
    · refine .inr ⟨g, 0, rfl, h3, fun i hi j hj => ?_⟩
      obtain rfl : j = 0 := by omega
      have e0 : 0 + i * 1 + 0 = i := by omega
      rw [e0, hr.cellAt i (by omega), ← hv2]
      simp [VR.cells, hi]

/-- How many numbers lie ahead of the j-th value. -/
def offs (xs : List (Value × List Int)) : Nat → Int
  | 0 => 0
  | j + 1 => offs xs j + ((xs.getD j default).2.length : Int)
theorem offs_mono (xs : List (Value × List Int)) {i j : Nat} (h : i ≤ j) : offs xs i ≤ offs xs j := by
  induction h with
  | refl => exact Int.le_refl _
  | step _ ih => simp only [offs]; omega
/-- The values are marked from k on. -/
structure HeldV (base : Nat) (k : Int) (w : World) (v : Value) (xs : List (Value × List Int)) : Prop where
  row : w.ownsRow base 74 1 v xs.length (xs.map Prod.fst)
  held : ∀ j, j < xs.length → ∃ a cap, (xs.getD j default).1 = .slice a (xs.getD j default).2.length cap ∧ HeldS (k + offs xs j) a (xs.getD j default).2.length cap w
theorem HeldV.below {base : Nat} {k : Int} {w w' : World} {v : Value} {xs : List (Value × List Int)} (h : HeldV base k w v xs) (hb : Below w.heap.size w w') : HeldV base k w' v xs :=
  ⟨orow_block h.row (fun g _ h2 _ => hb.block g h2), fun j hj => by obtain ⟨a, cap, h1, h2⟩ := h.held j hj; exact ⟨a, cap, h1, h2.below hb⟩⟩
theorem Touch.mono {T T' : Nat → Prop} {w w' : World} (h : Touch T w w') (hT : ∀ k, T k → T' k) : Touch T' w w' :=
  ⟨h.os, h.tape, h.output, h.size, fun k hk hn => h.block k hk (fun ht => hn (hT k ht)), h.room⟩
theorem c_markIntSK {a : Option Addr} {cap : Nat} {zs : List Int} {base : Nat} (k : Int) (hk0 : 0 ≤ k) (hk1 : k ≤ 1099511627776) (hlen : zs.length ≤ 1048576) (w : World) (h : w.ownsInts base 3 .i64 (.slice a zs.length cap) zs ∨ OwnS (fun g => Value.ownBlock (.slice a zs.length cap) = some g) a zs.length cap w) :
    Calls Tryz.prog 47 #[.slice a zs.length cap, .int .i64 k] w fun e w' => e = .returned (.int .i64 (k + (zs.length : Int))) ∧ Touch (fun g => Value.ownBlock (.slice a zs.length cap) = some g) w w' ∧ HeldS k a zs.length cap w' := by
  have h : OwnS (fun g => Value.ownBlock (.slice a zs.length cap) = some g) a zs.length cap w := by
    rcases h with h | h
    · obtain ⟨a', cap', e, hf⟩ := own_form h
      simp only [Value.slice.injEq] at e
      obtain ⟨rfl, -, rfl⟩ := e
      rcases hf with hf | ⟨g, rfl, -, hr⟩
      · exact .inl hf
      · exact .inr ⟨g, rfl, rfl, hr⟩
    · exact h
  rcases h with ⟨rfl, h0, rfl⟩ | ⟨g, rfl, hT, hr⟩
  · rw [h0]
    refine (c_markIntS_nil k w).mono ?_
    rintro e w' ⟨rfl, rfl⟩
    exact ⟨by simp, Touch.refl _ _, .inl ⟨rfl, rfl, rfl⟩⟩
  · refine (c_markIntS (T := fun x => Value.ownBlock (.slice (some ⟨g, 0, none⟩) zs.length cap) = some x) hT k hk0 hk1 hlen w hr).mono ?_
    rintro e w' ⟨rfl, h1, h2, h3⟩
    exact ⟨rfl, h1, .inr ⟨g, rfl, h2, h3⟩⟩
theorem c_heldIntSK {a : Option Addr} {len cap : Nat} (k : Int) (hk0 : 0 ≤ k) (hk1 : k ≤ 1099511627776) (hlen : len ≤ 1048576) (w : World) (h : HeldS k a len cap w) :
    Calls Tryz.prog 67 #[.slice a len cap, .int .i64 k] w fun e w' => e = .returned (.int .i64 (k + (len : Int))) ∧ w' = w := by
  rcases h with ⟨rfl, rfl, rfl⟩ | ⟨g, rfl, h2, h3⟩
  · refine (c_heldIntS_nil k w).mono ?_
    rintro e w' ⟨rfl, rfl⟩
    exact ⟨by simp, rfl⟩
  · exact c_heldIntS k (by omega) (by omega) (by omega) w h3
theorem HeldS.touch {T : Nat → Prop} {k : Int} {a : Option Addr} {len cap : Nat} {w w' : World} (h : HeldS k a len cap w) (ht : Touch T w w') (hT : ∀ g, Value.ownBlock (.slice a len cap) = some g → ¬ T g) : HeldS k a len cap w' := by
  rcases h with h | ⟨g, rfl, h2, h3⟩
  · exact .inl h
  · exact .inr ⟨g, rfl, Nat.lt_of_lt_of_le h2 ht.size, fun t ht' => (World.cell?_of_block (w := w) (w' := w') (a := ⟨g, t, none⟩) (ht.block g h2 (hT g rfl))).trans (h3 t ht')⟩
theorem offs_le (xs : List (Value × List Int)) (h : ∀ p ∈ xs, p.2.length ≤ 4) : offs xs xs.length ≤ 4 * xs.length := by
  have key : ∀ j, j ≤ xs.length → offs xs j ≤ 4 * j := fun j => by
    induction j with
    | zero => intro _; simp [offs]
    | succ j ih =>
      intro hj
      have h1 := ih (by omega)
      have h2 : (xs.getD j default).2.length ≤ 4 := h _ (by simp [List.getD, show j < xs.length by omega])
      simp only [offs]
      omega
  exact key _ (Nat.le_refl _)
/-- The blocks of the numbers alone. -/
def InV (xs : List (Value × List Int)) (g : Nat) : Prop := ∃ p ∈ xs, p.1.ownBlock = some g
/-- The value at j is marked from k + offs xs j on. -/
def HeldAt (k : Int) (xs : List (Value × List Int)) (j : Nat) (w : World) : Prop := ∃ a cap, (xs.getD j default).1 = .slice a (xs.getD j default).2.length cap ∧ HeldS (k + offs xs j) a (xs.getD j default).2.length cap w
def MarkedV (k : Int) (w : World) (xs : List (Value × List Int)) (kk i : Value) (wr : World) : Prop := ∃ j : Nat, j ≤ xs.length ∧ i = .int .i64 j ∧ kk = .int .i64 (k + offs xs j) ∧ Touch (InV xs) w wr ∧ ∀ t, t < j → HeldAt k xs t wr
theorem ValRow.dis_at {base : Nat} {w : World} {v : Value} {xs : List (Value × List Int)} (h : ValRow base w v xs) {t j : Nat} (htj : t < j) (hj : j < xs.length) {g : Nat} (h1 : (xs.getD t default).1.ownBlock = some g) : (xs.getD j default).1.ownBlock ≠ some g := by
  have := List.pairwise_iff_getElem.1 h.dis t j (by omega) hj htj
  have e1 : xs.getD t default = xs[t] := by simp [List.getD, show t < xs.length by omega]
  have e2 : xs.getD j default = xs[j] := by simp [List.getD, hj]
  rw [e1] at h1
  rw [e2]
  rcases this with h2 | h2
  · rw [h2] at h1; cases h1
  · rw [h1] at h2; exact fun e => h2 e.symm
theorem ValRow.rowT {base : Nat} {w wr : World} {v : Value} {xs : List (Value × List Int)} (h : ValRow base w v xs) (ht : Touch (InV xs) w wr) : wr.ownsRow base 74 1 v xs.length (xs.map Prod.fst) :=
  orow_block h.row (fun g _ h2 h3 => ht.block g h2 (fun ⟨p, hp, hg⟩ => by
    rcases h.ne p hp with h4 | h4
    · rw [h4] at hg; cases hg
    · exact h4 (hg.trans h3.symm)))
theorem ValRow.ownT {base : Nat} {w wr : World} {v : Value} {xs : List (Value × List Int)} (h : ValRow base w v xs) (ht : Touch (InV xs) w wr) {a : Option Addr} {cp : Nat} {zs : List Int} (ho : w.ownsInts base 3 .i64 (.slice a zs.length cp) zs) : OwnS (fun g => Value.ownBlock (.slice a zs.length cp) = some g) a zs.length cp wr := by
  obtain ⟨a', cap', e, hf⟩ := own_form ho
  simp only [Value.slice.injEq] at e
  obtain ⟨rfl, -, rfl⟩ := e
  rcases hf with hf | ⟨g, rfl, -, hr⟩
  · exact .inl hf
  · exact .inr ⟨g, rfl, rfl, ht.room _ _ hr⟩
theorem markedV_next {base : Nat} {k : Int} {w wr w1 : World} {v : Value} {xs : List (Value × List Int)} {j : Nat} {a : Option Addr} {cp : Nat} {zs : List Int} (h : ValRow base w v xs) (hj : j < xs.length) (he : xs.getD j default = (.slice a zs.length cp, zs)) (ht : Touch (InV xs) w wr) (hm : ∀ t, t < j → HeldAt k xs t wr)
    (ht1 : Touch (fun g => Value.ownBlock (.slice a zs.length cp) = some g) wr w1) (hh : HeldS (k + offs xs j) a zs.length cp w1) : MarkedV k w xs (.int .i64 (k + offs xs j + (zs.length : Int))) (.int .i64 ((j : Int) + 1)) w1 := by
  have hmem : xs.getD j default ∈ xs := by simp [List.getD, hj]
  refine ⟨j + 1, hj, by go_num, ?_, ht.trans (ht1.mono (fun g hg => ⟨_, hmem, by rw [he]; exact hg⟩)), fun t htj => ?_⟩
  · simp only [offs]; rw [he]; exact congrArg (Value.int .i64) (Int.add_assoc _ _ _)
  · by_cases e : t = j
    · subst e
      exact ⟨a, cp, by rw [he], by rw [he]; exact hh⟩
    · obtain ⟨a', cp', e1, e2⟩ := hm t (by omega)
      refine ⟨a', cp', e1, e2.touch ht1 (fun g hg hg' => ?_)⟩
      exact h.dis_at (t := t) (j := j) (by omega) hj (g := g) (by rw [e1]; exact hg) (by rw [he]; exact hg')
theorem ValRow.cellT {base : Nat} {wr : World} {g n cap k : Nat} {xs : List (Value × List Int)} (h : wr.ownsRow base 74 1 (.slice (some ⟨g, 0, none⟩) n cap) xs.length (xs.map Prod.fst)) (hn : n = xs.length) (hk : k < n) {a : Option Addr} {cp : Nat} {zs : List Int} (he : xs.getD k default = (.slice a zs.length cp, zs)) : wr.cell? ⟨g, k, none⟩ = some (.slice a zs.length cp) := by
  subst hn
  have e : xs.getD k default = xs[k] := by simp [List.getD, hk]
  rw [h.cellAt k (by omega)]
  rw [e] at he
  simp [hk, he]
theorem nat_pos_form {w : World} {base n s : Nat} {t : TypeId} {a : Option Addr} {m cap : Nat} {xs : List Value} (h : w.ownsRow base t s (.slice a m cap) n xs) (hn : 0 < n) : ∃ g, a = some ⟨g, 0, none⟩ := by
  obtain ⟨a', cap', e, -, -, h3⟩ := orow_form h
  simp only [Value.slice.injEq] at e
  obtain ⟨rfl, -, -⟩ := e
  rcases h3 with ⟨-, h3, -⟩ | ⟨g, h3, -⟩
  · omega
  · exact ⟨g, h3⟩
/-- What marks in values tell. -/
def MarkP (base : Nat) (k : Int) (w : World) (v : Value) (xs : List (Value × List Int)) (e : Ending) (w' : World) : Prop := e = .returned (.int .i64 (k + offs xs xs.length)) ∧ Touch (InV xs) w w' ∧ HeldV base k w' v xs

set_option maxHeartbeats 4000000 in
theorem c_markValueS {base : Nat} {a : Option Addr} {n cap : Nat} {xs : List (Value × List Int)} (k : Int) (hk0 : 0 ≤ k) (hn : n = xs.length) (hk1 : k + offs xs xs.length ≤ 1099511627776) (hl : n ≤ 1048576) (hlen : ∀ p ∈ xs, p.2.length ≤ 1048576) (w : World) (h : ValRow base w (.slice a n cap) xs) :
    Calls Tryz.prog 22 #[.slice a n cap, .int .i64 k] w (MarkP base k w (.slice a n cap) xs) := by
  have HR := Go.Lib.hid h
  have HL := Go.Lib.hid hlen
  have HO := Go.Lib.hid (show ∀ j, j ≤ xs.length → 0 ≤ offs xs j ∧ offs xs j ≤ offs xs xs.length from fun j hj => ⟨by have := offs_mono xs (Nat.zero_le j); simpa [offs] using this, offs_mono xs hj⟩)
  subst hn
  clear h hlen
  go_enter Tryz.func22, Tryz.ntmps22
  go_wp2_with fail
  go_loopw [1, 5] (fun kk i wr => MarkedV k w xs kk i wr) (fun _ i _ => xs.length - (intOf i).toNat)
  case atStart => exact ⟨0, by omega, rfl, by simp [offs], Touch.refl _ _, fun t h => by omega⟩
  case round =>
    obtain ⟨j, hj, rfl, rfl, ht, hm⟩ := hrel
    have HT := Go.Lib.hid ht
    have HM := Go.Lib.hid hm
    clear ht hm
    have ho := HO.out j hj
    by_cases hjl : j < xs.length
    · have hji : (j : Int) < xs.length := by omega
      obtain ⟨g, rfl⟩ := nat_pos_form HR.out.row (show 0 < xs.length by omega)
      obtain ⟨a', cp, zs, hat, -, hown, hmem⟩ := HR.out.at_ rfl hjl
      have c0 := ValRow.cellT (HR.out.rowT HT.out) rfl hjl hat
      have hzl : zs.length ≤ 1048576 := by have := HL.out _ hmem; rw [hat] at this; exact this
      have HAT := Go.Lib.hid hat
      have HOW := Go.Lib.hid (HR.out.ownT HT.out hown)
      clear hat hown hmem
      go_wp2_with fail
      refine (c_markIntSK (base := base) _ (by omega) (by omega) hzl wr (.inr HOW.out)).mono ?_
      rintro e w1 ⟨rfl, ht1, hh⟩
      have HQ := Go.Lib.hid (markedV_next HR.out hjl HAT.out HT.out HM.out ht1 hh)
      clear ht1 hh c0
      go_wp2_with fail
      go_roundw
      case rel => exact HQ.out
      case measure => simp [intOf] <;> omega
    · have hji : ¬ (j : Int) < xs.length := by omega
      obtain rfl : j = xs.length := by omega
      go_wp2_with fail
      go_ret
      exact ⟨rfl, HT.out, ⟨HR.out.rowT HT.out, HM.out⟩⟩

set_option maxHeartbeats 4000000 in
theorem c_heldValueS {base : Nat} {a : Option Addr} {n cap : Nat} {xs : List (Value × List Int)} (k : Int) (hk0 : 0 ≤ k) (hn : n = xs.length) (hk1 : k + offs xs xs.length ≤ 1099511627776) (hl : n ≤ 1048576) (hlen : ∀ p ∈ xs, p.2.length ≤ 1048576) (w : World) (h : HeldV base k w (.slice a n cap) xs) :
    Calls Tryz.prog 23 #[.slice a n cap, .int .i64 k] w fun e w' => e = .returned (.int .i64 (k + offs xs xs.length)) ∧ w = w' := by
  have HR := Go.Lib.hid h
  have HL := Go.Lib.hid hlen
  have HO := Go.Lib.hid (show ∀ j, j ≤ xs.length → 0 ≤ offs xs j ∧ offs xs j ≤ offs xs xs.length from fun j hj => ⟨by have := offs_mono xs (Nat.zero_le j); simpa [offs] using this, offs_mono xs hj⟩)
  subst hn
  clear h hlen
  go_enter Tryz.func23, Tryz.ntmps23
  go_wp2_with fail
  go_loopw [1, 5] (fun kk i wr => ∃ j : Nat, j ≤ xs.length ∧ i = .int .i64 j ∧ kk = .int .i64 (k + offs xs j) ∧ w = wr) (fun _ i _ => xs.length - (intOf i).toNat)
  case atStart => exact ⟨0, by omega, rfl, by simp [offs], rfl⟩
  case round =>
    obtain ⟨j, hj, rfl, rfl, rfl⟩ := hrel
    have ho := HO.out j hj
    by_cases hjl : j < xs.length
    · have hji : (j : Int) < xs.length := by omega
      obtain ⟨g, rfl⟩ := nat_pos_form HR.out.row (show 0 < xs.length by omega)
      obtain ⟨a', cp, h1, h2⟩ := HR.out.held j hjl
      have hmem : xs.getD j default ∈ xs := by simp [List.getD, hjl]
      have hpair : xs.getD j default = (.slice a' (xs.getD j default).2.length cp, (xs.getD j default).2) := by rw [← h1]
      obtain ⟨zs, hzs⟩ : ∃ zs, (xs.getD j default).2 = zs := ⟨_, rfl⟩
      rw [hzs] at h2 hpair
      have c0 := ValRow.cellT HR.out.row rfl hjl hpair
      have hzl : zs.length ≤ 1048576 := by have := HL.out _ hmem; rw [hzs] at this; exact this
      have ho1 := HO.out (j + 1) hjl
      have hoff : offs xs (j + 1) = offs xs j + (zs.length : Int) := by simp only [offs]; rw [hzs]
      have hnn : ¬ k + offs xs j + (zs.length : Int) < 0 := by omega
      have HOF := Go.Lib.hid (show k + offs xs (j + 1) = k + offs xs j + (zs.length : Int) by omega)
      have HH := Go.Lib.hid h2
      clear h1 h2 hmem hpair hzs hoff ho1
      go_wp2_with fail
      refine (c_heldIntSK _ (by omega) (by omega) hzl w HH.out).mono ?_
      rintro e w1 ⟨rfl, rfl⟩
      go_wp2_with fail
      go_roundw
      case rel => exact ⟨j + 1, by omega, by go_num, by rw [HOF.out], by first | rfl | trivial⟩
      case measure => simp [intOf] <;> omega
    · have hji : ¬ (j : Int) < xs.length := by omega
      obtain rfl : j = xs.length := by omega
      go_wp2_with fail
      go_ret
      exact ⟨rfl, by first | rfl | trivial⟩
end Go.Proofs.YtdfcjfielkpkiaaGreat

/-! A number as values: the mathematics. -/
namespace Go.Proofs.YtdfcjfielkpkiaaGreat
open Go.ChangeShapes Go.WideShapes Go.ChangeAt Go.RowKit Go.Maps
set_option linter.unusedVariables false
set_option maxRecDepth 100000


/-- The first k values, all 0. -/
def zer (P : List Int) (ns : List ND) : Nat → List (List Int)
  | 0 => []
  | k + 1 => zer P ns k ++ [List.replicate (cellsN (ns.getD (P.getD k 0).toNat default).si (ns.getD (P.getD k 0).toNat default).sw).toNat 0]
theorem zer_len (P : List Int) (ns : List ND) (k : Nat) : (zer P ns k).length = k := by
  induction k with
  | zero => rfl
  | succ k ih => simp [zer, ih]
/-- The first j words of width sw of a number from bit e on, and the bit behind them. -/
def ups (c sw e : Int) : Nat → List Int × Int
  | 0 => ([], e)
  | j + 1 => ((ups c sw e j).1 ++ [c / 2 ^ (ups c sw e j).2.toNat % 2 ^ sw.toNat], (ups c sw e j).2 + sw)
theorem ups_len (c sw e : Int) (j : Nat) : (ups c sw e j).1.length = j := by
  induction j with
  | zero => rfl
  | succ j ih => simp [ups, ih]
theorem ups_at (c sw e : Int) (j : Nat) : (ups c sw e j).2 = e + j * sw := by
  induction j with
  | zero => simp [ups]
  | succ j ih => simp only [ups, ih, Int.natCast_add, Int.add_mul]; omega
/-- The first k values of a number. -/
def upw (P : List Int) (ns : List ND) (c : Int) : Nat → List (List Int) × Int
  | 0 => ([], 0)
  | k + 1 => ((upw P ns c k).1 ++ [(ups c (ns.getD (P.getD k 0).toNat default).sw (upw P ns c k).2 (cellsN (ns.getD (P.getD k 0).toNat default).si (ns.getD (P.getD k 0).toNat default).sw).toNat).1], (ups c (ns.getD (P.getD k 0).toNat default).sw (upw P ns c k).2 (cellsN (ns.getD (P.getD k 0).toNat default).si (ns.getD (P.getD k 0).toNat default).sw).toNat).2)
theorem upw_len (P : List Int) (ns : List ND) (c : Int) (k : Nat) : (upw P ns c k).1.length = k := by
  induction k with
  | zero => rfl
  | succ k ih => simp [upw, ih]
theorem upw_at (P : List Int) (ns : List ND) (c : Int) (k : Nat) : (upw P ns c k).2 = sumB P ns k := by
  induction k with
  | zero => rfl
  | succ k ih =>
    simp only [upw, sumB, ups_at, ih]
    unfold bitsN
    have := (cellsN_bound (ns.getD (P.getD k 0).toNat default).si (ns.getD (P.getD k 0).toNat default).sw).1
    rw [Int.toNat_of_nonneg this]
def unpN (kind : Int) (ns : List ND) (c : Int) : List (List Int) := (upw (plcs kind ns ns.length) ns c (plcs kind ns ns.length).length).1
theorem sumB_nonneg (P : List Int) (ns : List ND) (k : Nat) : 0 ≤ sumB P ns k := by
  induction k with
  | zero => exact Int.le_refl _
  | succ k ih => simp only [sumB]; have := (bitsN_range (ns.getD (P.getD k 0).toNat default).si (ns.getD (P.getD k 0).toNat default).sw).1; omega
theorem up_at {kind : Int} {ns : List ND} (hb : allBits kind ns ≤ 8) {P : List Int} (hP : plcs kind ns ns.length = P) {k j : Nat} (hk : k < P.length) {nd : ND} (hnd : (ns.getD (P.getD k 0).toNat default) = nd) (hj : j < (cellsN nd.si nd.sw).toNat) {c e1 : Int} (he1 : (upw P ns c k).2 = e1) :
    0 ≤ (ups c nd.sw e1 j).2 ∧ (ups c nd.sw e1 j).2 + nd.sw ≤ 8 ∧ SOK nd.si nd.sw := by
  have hs : SOK nd.si nd.sw := by
    by_cases h : SOK nd.si nd.sw
    · exact h
    · unfold cellsN at hj; rw [if_neg h] at hj; exact absurd hj (Nat.not_lt_zero _)
  have hw := hs.2.2.1
  rw [upw_at] at he1
  rw [ups_at]
  have h0 := sumB_nonneg P ns k
  have h1 : sumB P ns (k + 1) ≤ allBits kind ns := by
    have h1 := sumB_plcs kind ns ns.length (Nat.le_refl _)
    rw [List.take_length, hP] at h1
    rw [← h1]
    exact sumB_le (by omega)
  simp only [sumB] at h1
  rw [hnd] at h1
  unfold bitsN at h1
  have h2 : (((j : Int) + 1) * nd.sw) ≤ cellsN nd.si nd.sw * nd.sw := Int.mul_le_mul_of_nonneg_right (by omega) (by omega)
  rw [Int.add_mul, Int.one_mul] at h2
  have h3 : 0 ≤ (j : Int) * nd.sw := Int.mul_nonneg (by omega) (by omega)
  refine ⟨by omega, by omega, hs⟩
/-- The first j words of a value, the others 0. -/
def mid (c sw e : Int) (n j : Nat) : List Int := (ups c sw e j).1 ++ List.replicate (n - j) 0
theorem mid_zero (c sw e : Int) (n : Nat) : mid c sw e n 0 = List.replicate n 0 := by simp [mid, ups]
theorem mid_full (c sw e : Int) (n : Nat) : mid c sw e n n = (ups c sw e n).1 := by simp [mid]
theorem mid_len {c sw e : Int} {n j : Nat} (h : j ≤ n) : (mid c sw e n j).length = n := by simp [mid, ups_len]; omega
theorem mid_set {c sw e : Int} {n j : Nat} (h : j < n) : (mid c sw e n j).set j (c / 2 ^ (ups c sw e j).2.toNat % 2 ^ sw.toNat) = mid c sw e n (j + 1) := by
  unfold mid
  obtain ⟨d, hd⟩ : ∃ d, n - j = d + 1 := ⟨n - j - 1, by omega⟩
  have hd' : n - (j + 1) = d := by omega
  rw [hd, hd', List.replicate_succ, List.set_append_right _ _ (by rw [ups_len]; exact Nat.le_refl _), ups_len, Nat.sub_self, List.set_cons_zero]
  simp [ups]
/-- The first k values of a number, the others 0. -/
def midw (P : List Int) (ns : List ND) (c : Int) (k : Nat) : List (List Int) := (upw P ns c k).1 ++ (zer P ns P.length).drop k
theorem midw_zero (P : List Int) (ns : List ND) (c : Int) : midw P ns c 0 = zer P ns P.length := by simp [midw, upw]
theorem midw_full (P : List Int) (ns : List ND) (c : Int) : midw P ns c P.length = (upw P ns c P.length).1 := by
  unfold midw; rw [List.drop_of_length_le (by rw [zer_len]; exact Nat.le_refl _), List.append_nil]
theorem midw_len {P : List Int} {ns : List ND} {c : Int} {k : Nat} (h : k ≤ P.length) : (midw P ns c k).length = P.length := by simp [midw, upw_len, zer_len]; omega
theorem zer_get (P : List Int) (ns : List ND) {k n : Nat} (h : k < n) : (zer P ns n).getD k [] = List.replicate (cellsN (ns.getD (P.getD k 0).toNat default).si (ns.getD (P.getD k 0).toNat default).sw).toNat 0 := by
  induction n with
  | zero => omega
  | succ n ih =>
    simp only [zer]
    by_cases e : k = n
    · subst e; simp [List.getD, zer_len]
    · have := ih (by omega)
      simp only [List.getD] at this ⊢
      rw [List.getElem?_append_left (by rw [zer_len]; omega)]
      exact this
theorem midw_at {P : List Int} {ns : List ND} {c : Int} {k : Nat} (h : k < P.length) : (midw P ns c k).getD k [] = List.replicate (cellsN (ns.getD (P.getD k 0).toNat default).si (ns.getD (P.getD k 0).toNat default).sw).toNat 0 := by
  have := zer_get P ns h
  unfold midw
  simp only [List.getD] at this ⊢
  rw [List.getElem?_append_right (by rw [upw_len]; exact Nat.le_refl _), upw_len, Nat.sub_self, List.getElem?_drop, Nat.add_zero]
  exact this
theorem midw_set {P : List Int} {ns : List ND} {c : Int} {k : Nat} (h : k < P.length) : (midw P ns c k).set k (ups c (ns.getD (P.getD k 0).toNat default).sw (upw P ns c k).2 (cellsN (ns.getD (P.getD k 0).toNat default).si (ns.getD (P.getD k 0).toNat default).sw).toNat).1 = midw P ns c (k + 1) := by
  unfold midw
  rw [List.set_append_right _ _ (by rw [upw_len]; exact Nat.le_refl _), upw_len, Nat.sub_self, List.drop_eq_getElem_cons (by rw [zer_len]; exact h), List.set_cons_zero]
  simp [upw]
/-- A number tells values. -/
def CodeOkN (kind : Int) (M : MD) (c : Int) : Prop := CodeIs M 0 ∧ 0 ≤ c ∧ c < 2 ^ (allBits kind M.ns).toNat
theorem made_ints (n : Nat) : (madeCells (Value.int .i64 0).cells (n * 1)).toList = (List.replicate n (0 : Int)).map (Value.int .i64) := by
  apply List.ext_getElem (by simp [madeCells])
  intro i h1 h2
  simp [madeCells, Value.cells, Nat.mod_one]
theorem own_made {w : World} {base n : Nat} {v : Value} (h : w.ownsRow base 3 1 v n (madeCells (Value.int .i64 0).cells (n * 1)).toList) : w.ownsInts base 3 .i64 v (List.replicate n 0) := by
  rw [made_ints] at h
  refine ⟨by simpa using h, fun z hz => ?_⟩
  rw [List.mem_replicate] at hz
  rw [hz.2]
  decide
theorem ValRow.store {base : Nat} {w : World} {v : Value} {xs : List (Value × List Int)} (h : ValRow base w v xs) {k : Nat} (hk : k < xs.length) {g cp n : Nat} {zs : List Int} (he : xs.getD k default = (.slice (some ⟨g, 0, none⟩) n cp, zs)) (j : Nat) {z : Int} (hz : fits z) :
    ValRow base (w.setCell ⟨g, j, none⟩ (.int .i64 z)) v (xs.set k (.slice (some ⟨g, 0, none⟩) n cp, zs.set j z)) := by
  have ek : xs.getD k default = xs[k] := by simp [List.getD, hk]
  rw [ek] at he
  have hm : xs[k] ∈ xs := List.getElem_mem ..
  have hok := h.own _ hm
  rw [he] at hok
  obtain ⟨a', cap', e0, -⟩ := own_form hok
  simp only [Value.slice.injEq] at e0
  obtain ⟨-, hn, -⟩ := e0
  subst hn
  have hne : v.ownBlock ≠ some g := by
    rcases h.ne _ hm with h1 | h1
    · rw [he] at h1; simp [Value.ownBlock] at h1
    · rw [he] at h1; exact fun e => h1 e.symm
  have hb : ∀ x, x ≠ g → (w.setCell ⟨g, j, none⟩ (.int .i64 z)).heap[x]? = w.heap[x]? := fun x hx => heap_setCell_other _ _ _ _ hx
  have hfst : (xs.set k (.slice (some ⟨g, 0, none⟩) zs.length cp, zs.set j z)).map Prod.fst = xs.map Prod.fst := by
    rw [List.map_set]
    apply List.ext_getElem (by simp)
    intro i h1 h2
    rw [List.getElem_set]
    split
    · rename_i e; subst e; simp [he]
    · rfl
  have hcase : ∀ p ∈ xs.set k (.slice (some ⟨g, 0, none⟩) zs.length cp, zs.set j z), (p = (.slice (some ⟨g, 0, none⟩) zs.length cp, zs.set j z)) ∨ (p ∈ xs ∧ p.1.ownBlock ≠ some g) := by
    intro p hp
    obtain ⟨i, hi, rfl⟩ := List.getElem_of_mem hp
    rw [List.getElem_set]
    split
    · exact .inl rfl
    · rename_i e
      simp at hi
      refine .inr ⟨List.getElem_mem .., fun eg => ?_⟩
      rcases Nat.lt_or_ge i k with h1 | h1
      · exact h.dis_at h1 hk (g := g) (by simpa [List.getD, hi] using eg) (by rw [ek, he]; rfl)
      · exact h.dis_at (show k < i by omega) hi (g := g) (by rw [ek, he]; rfl) (by simpa [List.getD, hi] using eg)
  have hmap : ∀ (l : List (Value × List Int)), l.map Prod.fst = xs.map Prod.fst → l.Pairwise (fun p q => p.1.ownBlock = none ∨ p.1.ownBlock ≠ q.1.ownBlock) := fun l hl => by
    have h1 := h.dis
    rw [← List.pairwise_map (f := Prod.fst) (R := fun (p q : Value) => p.ownBlock = none ∨ p.ownBlock ≠ q.ownBlock)] at h1 ⊢
    rw [hl]; exact h1
  refine ⟨?_, fun p hp => ?_, fun p hp => ?_, hmap _ hfst⟩
  · rw [hfst, List.length_set]
    exact orow_block h.row (fun x _ _ h3 => hb x (fun e => hne (by rw [h3, e])))
  · rcases hcase p hp with rfl | ⟨hp, hg⟩
    · obtain ⟨hst, -⟩ := hok.1.stored j (.int .i64 z)
      refine ⟨by simpa [List.map_set] using hst, fun y hy => ?_⟩
      rcases List.mem_or_eq_of_mem_set hy with hy | rfl
      · exact hok.2 y hy
      · exact hz
    · exact own_block (h.own p hp) (fun x _ _ h3 => hb x (fun e => hg (by rw [h3, e])))
  · rcases hcase p hp with rfl | ⟨hp, hg⟩
    · exact .inr (fun e => hne e.symm)
    · exact h.ne p hp
end Go.Proofs.YtdfcjfielkpkiaaGreat

/-! A number as values: the program. -/
namespace Go.Proofs.YtdfcjfielkpkiaaGreat
open Go.ChangeShapes Go.WideShapes Go.ChangeAt Go.RowKit Go.Maps
set_option linter.unusedVariables false
set_option maxRecDepth 100000


theorem ValRow.fresh {base g : Nat} {w : World} {v : Value} {xs : List (Value × List Int)} (h : ValRow base w v xs) (hg : w.heap.size ≤ g) : ¬ ValBlk v xs g := fun hb => by have := (h.blk hb).2; omega
/-- Values of zeros. -/
def ZeroP (kind : Int) (ns : List ND) (w : World) (e : Ending) (w' : World) : Prop := ∃ v xs, e = .returned v ∧ ValRow w.heap.size w' v xs ∧ xs.map Prod.snd = zer (plcs kind ns ns.length) ns (plcs kind ns ns.length).length ∧ Below w.heap.size w w'
def ZeroR (P : List Int) (ns : List ND) (w : World) (s i : Value) (wr : World) : Prop := ∃ (t : Nat) (xs : List (Value × List Int)), t ≤ P.length ∧ i = .int .i64 t ∧ ValRow w.heap.size wr s xs ∧ xs.map Prod.snd = zer P ns t ∧ Below w.heap.size w wr

set_option maxHeartbeats 4000000 in
theorem c_zeroValues {B : Nat} {a0 : Option Addr} {l0 p0 : Nat} {ns : List ND} (kind : Int) (w : World) (hBw : B ≤ w.heap.size) (h : NodesAt B w a0 l0 p0 ns) (h60 : l0 ≤ 60) :
    Calls Tryz.prog 79 #[.slice a0 l0 p0, .int .i64 kind] w (ZeroP kind ns w) := by
  have HN := Go.Lib.hid h
  have hnl : ns.length = l0 := h.1
  obtain ⟨P, hP⟩ : ∃ P, plcs kind ns ns.length = P := ⟨_, rfl⟩
  have HPP := Go.Lib.hid hP
  have hp60 : P.length ≤ 60 := by have := plcs_len kind ns ns.length; rw [hP] at this; omega
  have HPL := Go.Lib.hid (show ∀ k, k < P.length → 0 ≤ P.getD k 0 ∧ P.getD k 0 < l0 from fun k hk => by subst hP; have := plcs_at hk; omega)
  clear h hP hnl
  obtain ⟨i1, hi1, hz01, hz11, hz21⟩ := info_parts intInfo
  obtain ⟨i2, hi2, hz02, hz12, hz22⟩ := info_parts valueInfo
  have HI1 := Go.Lib.hid hi1
  have HI2 := Go.Lib.hid hi2
  have HZ01 := Go.Lib.hid hz01
  have HZ02 := Go.Lib.hid hz02
  have HZ11 := Go.Lib.hid hz11
  have HZ12 := Go.Lib.hid hz12
  have HZ21 := Go.Lib.hid hz21
  have HZ22 := Go.Lib.hid hz22
  clear hi1 hi2 hz01 hz02 hz11 hz12 hz21 hz22
  go_enter Tryz.func79, Tryz.ntmps79
  go_wp2_with fail
  refine (c_kindPlaces (B := B) kind w hBw HN.out h60).mono ?_
  rintro e w1 ⟨v, rfl, ho, hq⟩
  rw [HPP.out] at ho
  obtain ⟨pa, pcap, rfl, hform⟩ := own_form ho
  have HP := Go.Lib.hid (own_ints ho rfl)
  have HQ1 := Go.Lib.hid hq
  have HN1 := Go.Lib.hid (HN.out.rows.below (hq.mono hBw)).nodes
  have hB1 : B ≤ w1.heap.size := Nat.le_trans hBw hq.size
  clear ho hform hq HN
  go_wp2_with fail
  go_loopw [5, 12] (fun s i wr => ZeroR P ns w1 s i wr) (fun _ i _ => P.length - (intOf i).toNat)
  case atStart => exact ⟨0, [], by omega, rfl, ValRow.nil _ _, rfl, Below.refl _ _⟩
  case round =>
    obtain ⟨t, xs, ht, rfl, hv, hxs, hBr⟩ := hrel
    have HV := Go.Lib.hid hv
    have HXS := Go.Lib.hid hxs
    have HBr := Go.Lib.hid hBr
    have hxl : xs.length = t := by have := congrArg List.length hxs; rw [zer_len] at this; simpa using this
    have HXL := Go.Lib.hid hxl
    have hsz := hBr.size
    clear hv hxs hBr hxl
    by_cases htl : t < P.length
    · have hti : (t : Int) < P.length := by omega
      obtain ⟨p, b1, o1, hp, -, rfl, hbB1, e0⟩ := int_at (HP.out.below HBr.out) htl
      have hpr := HPL.out t htl
      rw [hp] at hpr
      obtain ⟨q, rfl⟩ : ∃ q : Nat, p = q := ⟨p.toNat, by omega⟩
      have hql : (q : Int) < l0 := hpr.2
      obtain ⟨nd, b, off, hnd, rfl, hbB, hc⟩ := kind_at ((HN1.out.rows.below (HBr.out.mono hB1)).nodes) (show q < l0 by omega)
      obtain ⟨-, -, -, -, -, -, d6, d7, -⟩ := node_cells hc
      have HND := Go.Lib.hid (show (ns.getD (P.getD t 0).toNat default) = nd by rw [hp]; simpa using hnd)
      obtain ⟨k0, pa', pb, pc, n, m, si, sw, nm⟩ := nd
      simp only at d6 d7
      have hcb := cellsN_bound si sw
      obtain ⟨cn, hcn⟩ : ∃ cn : Nat, cellsN si sw = cn := ⟨(cellsN si sw).toNat, by omega⟩
      have HCN := Go.Lib.hid hcn
      have hcn8 : cn ≤ 4 := by omega
      clear hc hnd hp hpr hcb
      go_wp2_with fail
      refine (c_SortCellsI si sw wr).mono ?_
      rintro e w2 ⟨he, hq⟩
      rw [HCN.out] at he
      subst he
      have hs2 := hq.size
      obtain ⟨w3, hrun, hown, hgrow⟩ := run_make_full (P := Tryz.prog) w2 w1.heap.size 24 3 i1 _ 1 Tryz.underlying24 HI1.out HZ01.out HZ11.out .i64 .i64 cn (by rw [HZ21.out]; omega) (by unfold maxLen; omega) (by omega)
      have HQ3 := Go.Lib.hid ((Below.refl w2.heap.size w2).grown hgrow (Nat.le_refl _) (by simp))
      have HOW := Go.Lib.hid (own_made hown)
      have HV3 := Go.Lib.hid ((HV.out.below hq).below HQ3.out)
      have hs3 := HQ3.out.size
      have HB3 := Go.Lib.hid ((HBr.out.trans (hq.mono HBr.out.size)).trans (HQ3.out.mono (Nat.le_trans hsz hs2)))
      have HFR := Go.Lib.hid (show ∀ g, Value.ownBlock (.slice (some ⟨w2.heap.size, 0, none⟩) cn cn) = some g → ¬ ValBlk _ xs g from fun g hg => HV.out.fresh (by simp [Value.ownBlock] at hg; omega))
      clear hown hgrow hq e0 d6 d7 hcn
      go_wp2_with (first | (at_builtin; refine wpList_append_own_at _ rfl _ _ 30 rfl w1.heap.size 74 i2 _ 1 24 Tryz.underlying30 HI2.out HZ02.out HZ12.out HZ22.out rfl (by decide) _ _ _ rfl (HV3.out.row.alloc _) ⟨w3.heap.size, 0, none⟩ 1 1 [.slice (some ⟨w2.heap.size, 0, none⟩) cn cn] rfl rfl (cell_one_new _ _ _) (by simp [Value.oneCell']) (by unfold maxLen; have := HXL.out; omega) (by have := HXL.out; omega) (by simp; omega) ?_; intro v' w4 hown' hgrow' hnil hloc) | go_in)
      have HA := Go.Lib.hid (HV3.out.push HOW.out HFR.out hown' hgrow' hloc)
      have HB4 := Go.Lib.hid ((HB3.out.alloc (by omega) _).grown hgrow' (by simp; omega) (fun j hj => (HV3.out.row.lt j hj).1))
      have HZR := Go.Lib.hid (show zer P ns (t + 1) = zer P ns t ++ [List.replicate cn 0] from by simp only [zer]; rw [HND.out]; simp only; rw [HCN.out]; rfl)
      clear hown' hgrow' hnil hloc hrun
      go_roundw
      case rel => exact ⟨t + 1, _, by omega, by go_num, HA.out, by rw [List.map_append, HXS.out, HZR.out]; rfl, HB4.out⟩
      case measure => simp [intOf] <;> omega
    · have hti : ¬ (t : Int) < P.length := by omega
      obtain rfl : t = P.length := by omega
      have HE := Go.Lib.hid (HQ1.out.trans (HBr.out.mono HQ1.out.size))
      go_wp2_with fail
      go_ret
      exact ⟨_, _, rfl, HV.out.mono HQ1.out.size, by rw [HPP.out]; exact HXS.out, HE.out⟩

/-- The two cells of the program's taker: the number, and the place. -/
structure TKW (b : Nat) (c p : Int) (w : World) : Prop where
  c1 : w.heap[b]? = some (.cells #[.int .i64 c] 3 (0, 0))
  c2 : w.heap[b + 1]? = some (.cells #[.int .i64 p] 3 (0, 0))
theorem TKW.lt {b : Nat} {c p : Int} {w : World} (h : TKW b c p w) : b + 1 < w.heap.size := (Array.getElem?_eq_some_iff.1 h.c2).1
theorem TKW.below {b : Nat} {c p : Int} {w w' : World} (h : TKW b c p w) (hb : Below w.heap.size w w') : TKW b c p w' := ⟨(hb.block _ (by have := h.lt; omega)).trans h.c1, (hb.block _ h.lt).trans h.c2⟩
theorem TKW.put {b : Nat} {c p : Int} {w : World} (h : TKW b c p w) (q : Int) : TKW b c q (w.setCell ⟨b + 1, 0, none⟩ (.int .i64 q)) :=
  ⟨(heap_setCell_other _ _ _ _ (by simp)).trans h.c1, one_setCell h.c2⟩

set_option maxHeartbeats 4000000 in
theorem c_bitTaker (c : Int) (w : World) :
    Calls Tryz.prog 136 #[.int .i64 c] w fun e w' => e = .returned (.func (.func 176) #[] #[.pointer (some ⟨w.heap.size, 0, none⟩), .pointer (some ⟨w.heap.size + 1, 0, none⟩)]) ∧ TKW w.heap.size c 0 w' ∧ Below w.heap.size w w' := by
  have hmf : ∀ (fn : Fn) (first cap : Array Value) (w : World), (Instr.makeFunc fn first cap).run Tryz.prog w = .ok (.func fn first cap) w := fun _ _ _ _ => rfl
  go_enter Tryz.func136, Tryz.ntmps136
  go_upto_region 2 with fail
  refine code_gen (R := fun wb => TKW w.heap.size c 0 wb ∧ Below w.heap.size w wb) ⟨⟨?_, ?_⟩, by go_grown⟩ ?_
  · first
      | (rw [heap_setCell_other _ _ _ _ (by simp), (MapKept.heap_alloc _ _).2 _ (alloc_ltS _ _)]; exact (MapKept.heap_alloc _ _).1)
      | (rw [(MapKept.heap_alloc _ _).2 _ (alloc_ltS _ _)]; exact (MapKept.heap_alloc _ _).1)
  · have e : w.heap.size + 1 = (w.alloc (.cells #[.int .i64 c] 3)).heap.size := by show _ = (w.heap.push _).size; simp
    rw [e]
    first
      | exact one_setCell (v := .int .i64 0) (MapKept.heap_alloc _ _).1
      | exact (MapKept.heap_alloc _ _).1
  rintro w1 ⟨h1, h4⟩
  have H1 := Go.Lib.hid h1
  have H4 := Go.Lib.hid h4
  clear h1 h4
  go_wp2_with fail
  go_ret
  exact ⟨rfl, H1.out, H4.out⟩

/-- What a word that is taken leaves. -/
def TookP (b : Nat) (c p n : Int) (w : World) (e : Ending) (w' : World) : Prop := e = .returned (.int .i64 (c / 2 ^ p.toNat % 2 ^ n.toNat)) ∧ TKW b c (p + n) w' ∧ Below (b + 1) w w' ∧ w'.heap.size = w.heap.size ∧ ∀ y, y ≠ b + 1 → w'.heap[y]? = w.heap[y]?
set_option maxHeartbeats 4000000 in
theorem c_takeOne (b : Nat) (c p n : Int) (w : World) (h : TKW b c p w) (hc0 : 0 ≤ c) (hp0 : 0 ≤ p) (hp8 : p + n ≤ 8) (hn1 : 1 ≤ n) :
    Calls Tryz.prog 176 #[.int .i64 n, .pointer (some ⟨b, 0, none⟩), .pointer (some ⟨b + 1, 0, none⟩)] w (TookP b c p n w) := by
  have hpn : ¬ p < 0 := by omega
  have hmin : min p.toNat 64 = p.toNat := by omega
  have HF := Go.Lib.hid (frm_eq (w := n) (c / 2 ^ p.toNat) (by omega) (by omega))
  have HK := Go.Lib.hid h
  have c1 := cell_of_one h.c1
  have c2 := cell_of_one h.c2
  have f2 := free_of_one h.c2
  clear h
  go_enter Tryz.func176, Tryz.ntmps176
  go_wp2_with fail
  (try rw [hmin])
  refine (c_WordFromI n (c / 2 ^ p.toNat) w).mono ?_
  rintro e w1 ⟨rfl, rfl⟩
  go_wp2_with fail
  go_ret
  exact ⟨by rw [HF.out]; rfl, HK.out.put _, Below.setCell (p := ⟨b + 1, 0, none⟩) (Below.refl _ _) (Nat.le_refl _) _, by simp, fun y hy => heap_setCell_other _ _ _ _ hy⟩

/-- The values of a number under way: W0 the first block of the call's own, b the taker's. -/
def CVS (W0 b : Nat) (w3 : World) (v : Value) (zss : List (List Int)) (c p : Int) (wr : World) : Prop := ∃ xs, ValRow W0 wr v xs ∧ (∀ g, ValBlk v xs g → g < b) ∧ xs.map Prod.snd = zss ∧ TKW b c p wr ∧ (∀ g, b + 1 < g → g < w3.heap.size → wr.heap[g]? = w3.heap[g]?) ∧ w3.heap.size ≤ wr.heap.size ∧ Below W0 w3 wr
theorem cvs_next {W0 b : Nat} {w3 wd w5 : World} {v : Value} {zss : List (List Int)} {c p n : Int} {t j g cp m : Nat} {zs : List Int} {xs : List (Value × List Int)} (hW : W0 ≤ b)
    (h : ValRow W0 wd v xs) (hlt : ∀ g, ValBlk v xs g → g < b) (hz : xs.map Prod.snd = zss) (ht : t < xs.length) (he : xs.getD t default = (.slice (some ⟨g, 0, none⟩) m cp, zs)) (h3 : ∀ g, b + 1 < g → g < w3.heap.size → wd.heap[g]? = w3.heap[g]?) (hs : w3.heap.size ≤ wd.heap.size) (hB : Below W0 w3 wd)
    (hk : TKW b c (p + n) w5) (hb : Below (b + 1) wd w5) (hy : ∀ y, y ≠ b + 1 → w5.heap[y]? = wd.heap[y]?) {z : Int} (hfz : fits z) : CVS W0 b w3 v (zss.set t (zs.set j z)) c (p + n) (w5.setCell ⟨g, j, none⟩ (.int .i64 z)) := by
  have hgb : g < b := hlt g (.inr ⟨(.slice (some ⟨g, 0, none⟩) m cp, zs), by rw [← he]; simp [List.getD, ht], rfl⟩)
  have hg0 : W0 ≤ g := (h.blk (.inr ⟨(.slice (some ⟨g, 0, none⟩) m cp, zs), by rw [← he]; simp [List.getD, ht], rfl⟩)).1
  have h5 : ValRow W0 w5 v xs := h.kept (fun x _ _ hx => hy x (by have := hlt x hx; omega))
  have hbl : ∀ x, x ≠ g → (w5.setCell ⟨g, j, none⟩ (.int .i64 z)).heap[x]? = w5.heap[x]? := fun x hx => heap_setCell_other _ _ _ _ hx
  refine ⟨_, h5.store ht he j hfz, ?_, by rw [List.map_set, hz], ⟨(hbl _ (by omega)).trans hk.c1, (hbl _ (by omega)).trans hk.c2⟩, fun x hx hx3 => (hbl x (by omega)).trans ((hy x (by omega)).trans (h3 x hx hx3)), ?_, ?_⟩
  · rintro x (hx | ⟨p, hp, hx⟩)
    · exact hlt x (.inl hx)
    · rcases List.mem_or_eq_of_mem_set hp with hp | rfl
      · exact hlt x (.inr ⟨p, hp, hx⟩)
      · simp [Value.ownBlock] at hx; omega
  · have := hb.size; simp; omega
  · exact (hB.trans (hb.mono (by omega))).setCell hg0 _
theorem emod_fits {c q : Int} (hc : 0 ≤ c) (h256 : c < 256) (hq : 1 ≤ q) (e : Int) (he : 1 ≤ e) : fits (c / e % q) := by
  have h1 : 0 ≤ c / e := Int.ediv_nonneg hc (by omega)
  have h2 : c / e ≤ c := Int.ediv_le_self _ hc
  have h3 := Int.emod_nonneg (c / e) (b := q) (by omega)
  have h4 : c / e % q ≤ c / e := by
    by_cases hl : c / e < q
    · rw [Int.emod_eq_of_lt h1 hl]; exact Int.le_refl _
    · have := Int.emod_lt_of_pos (c / e) (b := q) (by omega); omega
  exact WalkArith.wf_i64 (by omega)
def UnpP (kind : Int) (ns : List ND) (c : Int) (w : World) (e : Ending) (w' : World) : Prop := ∃ v xs, e = .returned v ∧ ValRow w.heap.size w' v xs ∧ xs.map Prod.snd = unpN kind ns c ∧ Below w.heap.size w w'
theorem ValRow.len {base : Nat} {w : World} {v : Value} {xs : List (Value × List Int)} (h : ValRow base w v xs) : ∃ a cap, v = .slice a xs.length cap := by
  obtain ⟨a, cap, e, -⟩ := orow_form h.row
  exact ⟨a, cap, e⟩

set_option maxHeartbeats 8000000 in
theorem c_codeValues {B : Nat} {a0 : Option Addr} {l0 p0 : Nat} {ns : List ND} (kind c : Int) (w : World) (hBw : B ≤ w.heap.size) (h : NodesAt B w a0 l0 p0 ns) (h60 : l0 ≤ 60) (hb : allBits kind ns ≤ 8) (hc0 : 0 ≤ c) (hc8 : c < 256) :
    Calls Tryz.prog 89 #[.slice a0 l0 p0, .int .i64 kind, .int .i64 c] w (UnpP kind ns c w) := by
  have HN := Go.Lib.hid h
  have HB := Go.Lib.hid hb
  have hnl : ns.length = l0 := h.1
  obtain ⟨P, hP⟩ : ∃ P, plcs kind ns ns.length = P := ⟨_, rfl⟩
  have HPP := Go.Lib.hid hP
  have hp60 : P.length ≤ 60 := by have := plcs_len kind ns ns.length; rw [hP] at this; omega
  have HPL := Go.Lib.hid (show ∀ k, k < P.length → 0 ≤ P.getD k 0 ∧ P.getD k 0 < l0 from fun k hk => by subst hP; have := plcs_at hk; omega)
  clear h hP hnl hb
  go_enter Tryz.func89, Tryz.ntmps89
  go_wp2_with fail
  refine (c_zeroValues (B := B) kind w hBw HN.out h60).mono ?_
  rintro e w1 ⟨v, xs0, rfl, hv0, hx0, hq1⟩
  rw [HPP.out] at hx0
  have HV1 := Go.Lib.hid hv0
  have HX0 := Go.Lib.hid hx0
  have HQ1 := Go.Lib.hid hq1
  obtain ⟨va, vcap, rfl⟩ := hv0.len
  have hxl0 : xs0.length = P.length := by have := congrArg List.length hx0; rw [zer_len] at this; simpa using this
  rw [hxl0] at HV1 ⊢
  clear hv0 hx0 hq1 hxl0
  go_wp2_with fail
  refine (c_bitTaker c w1).mono ?_
  rintro e w2 ⟨rfl, htk, hq2⟩
  have HT2 := Go.Lib.hid htk
  have HQ2 := Go.Lib.hid hq2
  have HN2 := Go.Lib.hid (HN.out.rows.below ((HQ1.out.trans (hq2.mono HQ1.out.size)).mono hBw)).nodes
  have hB2 : B ≤ w2.heap.size := Nat.le_trans hBw (Nat.le_trans HQ1.out.size hq2.size)
  clear htk hq2
  go_wp2_with fail
  refine (c_kindPlaces (B := B) kind w2 hB2 HN2.out h60).mono ?_
  rintro e w3 ⟨pv, rfl, ho, hq3⟩
  rw [HPP.out] at ho
  obtain ⟨pa, pcap, rfl, hform⟩ := own_form ho
  have HP := Go.Lib.hid (own_ints ho rfl)
  have HG := Go.Lib.hid (show ∀ b o, pa = some ⟨b, o, none⟩ → w1.heap.size + 1 < b from fun b o e => by
    have h2 := HT2.out.lt
    rcases hform with ⟨h1, -, -⟩ | ⟨g, h1, h3, -⟩
    · rw [h1] at e; cases e
    · rw [h1] at e; injection e with e; injection e with e; omega)
  have HQ3 := Go.Lib.hid ((HQ1.out.trans (HQ2.out.mono HQ1.out.size)).trans (hq3.mono (Nat.le_trans HQ1.out.size HQ2.out.size)))
  have HN3 := Go.Lib.hid (HN.out.rows.below (HQ3.out.mono hBw)).nodes
  have HCV := Go.Lib.hid (show CVS w.heap.size w1.heap.size w3 (.slice va P.length vcap) (midw P ns c 0) c (upw P ns c 0).2 w3 from
    ⟨xs0, (HV1.out.below HQ2.out).below hq3, fun g hg => (HV1.out.blk hg).2, by rw [midw_zero]; exact HX0.out, HT2.out.below hq3, fun _ _ _ => rfl, Nat.le_refl _, Below.refl _ _⟩)
  have hWb : w.heap.size ≤ w1.heap.size := HQ1.out.size
  clear ho hform hq3 HN HN2 HV1 HX0 HT2 HQ2 hB2
  go_wp2_with fail
  go_loopw [21] (fun i wr => ∃ t : Nat, t ≤ P.length ∧ i = .int .i64 t ∧ CVS w.heap.size w1.heap.size w3 (.slice va P.length vcap) (midw P ns c t) c (upw P ns c t).2 wr) (fun i _ => P.length - (intOf i).toNat)
  case atStart => exact ⟨0, by omega, rfl, HCV.out⟩
  case round =>
    obtain ⟨t, ht, rfl, hcv⟩ := hrel
    have HC := Go.Lib.hid hcv
    clear hcv HCV
    by_cases htl : t < P.length
    · have hti : (t : Int) < P.length := by omega
      obtain ⟨xs, hv, hlt, hxs, htk, h3, hs3, hB3⟩ := HC.out
      obtain ⟨p, b1, o1, hp, -, rfl, hbB1, e0⟩ := int_at HP.out htl
      have e2 := (World.cell?_of_block (w := w3) (w' := wr) (a := ⟨b1, o1 + t, none⟩) (h3 b1 (HG.out _ _ rfl) hbB1)).trans e0
      have hpr := HPL.out t htl
      rw [hp] at hpr
      obtain ⟨q, rfl⟩ : ∃ q : Nat, p = q := ⟨p.toNat, by omega⟩
      have hql : (q : Int) < l0 := hpr.2
      obtain ⟨nd, b, off, hnd, rfl, hbB, hc⟩ := kind_at HN3.out (show q < l0 by omega)
      obtain ⟨-, -, -, -, -, -, d6, d7, -⟩ := node_cells hc
      have HND := Go.Lib.hid (show (ns.getD (P.getD t 0).toNat default) = nd by rw [hp]; simpa using hnd)
      have hxl : xs.length = P.length := by have := congrArg List.length hxs; rw [midw_len ht] at this; simpa using this
      obtain ⟨gh, rfl⟩ := nat_pos_form hv.row (show 0 < xs.length by omega)
      obtain ⟨a', cp, zs, hat, c0, -, -⟩ := hv.at_ hxl.symm htl
      have hzs : zs = List.replicate (cellsN nd.si nd.sw).toNat 0 := by
        have h1 := midw_at (c := c) (ns := ns) htl
        rw [HND.out, ← hxs] at h1
        rw [← h1]
        simp only [List.getD, List.getElem?_map] at hat ⊢
        rw [List.getElem?_eq_getElem (by omega)] at hat ⊢
        simp only [Option.getD_some] at hat
        simp [hat]
      obtain ⟨k0, pa', pb, pc, n, m, si, sw, nm⟩ := nd
      simp only at d6 d7 hzs
      obtain ⟨cn, hcn⟩ : ∃ cn : Nat, (cellsN si sw).toNat = cn := ⟨_, rfl⟩
      rw [hcn] at hzs
      have hzl : zs.length = cn := by rw [hzs, List.length_replicate]
      rw [hzl] at c0
      have hcn8 : cn ≤ 4 := by have := cellsN_bound si sw; omega
      have HCN := Go.Lib.hid hcn
      obtain ⟨e1, he1⟩ : ∃ e1, (upw P ns c t).2 = e1 := ⟨_, rfl⟩
      have HE1 := Go.Lib.hid he1
      have HUP := Go.Lib.hid (show ∀ j, j < cn → 0 ≤ (ups c sw e1 j).2 ∧ (ups c sw e1 j).2 + sw ≤ 8 ∧ SOK si sw from fun j hj => up_at HB.out HPP.out htl HND.out (by show j < (cellsN si sw).toNat; rw [HCN.out]; exact hj) HE1.out)
      have HIN := Go.Lib.hid (show CVS w.heap.size w1.heap.size w3 (.slice (some ⟨gh, 0, none⟩) P.length vcap) ((midw P ns c t).set t (mid c sw e1 cn 0)) c (ups c sw e1 0).2 wr from by
        have h1 : (midw P ns c t).set t (mid c sw e1 cn 0) = midw P ns c t := by
          rw [mid_zero, ← HCN.out]
          have h2 := midw_at (c := c) (ns := ns) htl
          rw [HND.out] at h2
          simp only at h2
          rw [← h2]
          apply List.ext_getElem (by simp)
          intro i h1 h2
          rw [List.getElem_set]
          split
          · rename_i e; subst e; simp [List.getD, List.getElem?_eq_getElem h2]
          · rfl
        rw [h1]
        have h2 : (ups c sw e1 0).2 = (upw P ns c t).2 := he1.symm
        rw [h2]; exact HC.out)
      have HNX := Go.Lib.hid (show midw P ns c (t + 1) = (midw P ns c t).set t (mid c sw e1 cn cn) ∧ (upw P ns c (t + 1)).2 = (ups c sw e1 cn).2 from by
        refine ⟨?_, ?_⟩
        · rw [← midw_set htl, HND.out, mid_full, HE1.out]; simp only; rw [HCN.out]
        · simp only [upw]; rw [HND.out, HE1.out]; simp only; rw [HCN.out])
      have HD7 := Go.Lib.hid d7
      have HMD := Go.Lib.hid (show ∀ j, j ≤ cn → ((midw P ns c t).set t (mid c sw e1 cn j)).length = P.length ∧ ((midw P ns c t).set t (mid c sw e1 cn j)).getD t [] = mid c sw e1 cn j from fun j hj => by
        have h1 := midw_len (c := c) (ns := ns) ht
        refine ⟨by rw [List.length_set]; exact h1, ?_⟩
        simp [List.getD, h1, htl])
      clear hc hnd hp hpr e0 hv hlt hxs htk h3 hs3 hB3 hat hzs d6 d7 hcn he1 hxl hzl HC
      go_wp2_with fail
      go_loopw [32] (fun i wr => ∃ j : Nat, j ≤ cn ∧ i = .int .i64 j ∧ CVS w.heap.size w1.heap.size w3 (.slice (some ⟨gh, 0, none⟩) P.length vcap) ((midw P ns c t).set t (mid c sw e1 cn j)) c (ups c sw e1 j).2 wr) (fun i _ => cn - (intOf i).toNat)
      case atStart => exact ⟨0, by omega, rfl, HIN.out⟩
      case round =>
        obtain ⟨j, hj, rfl, hcv⟩ := hrel
        have HC := Go.Lib.hid hcv
        clear hcv HIN e2 c0
        by_cases hjl : j < cn
        · have hji : (j : Int) < cn := by omega
          obtain ⟨xs, hv, hlt, hxs, htk, h3, hs3, hB3⟩ := HC.out
          have hxl : xs.length = P.length := by have := congrArg List.length hxs; rw [(HMD.out j hj).1] at this; simpa using this
          obtain ⟨a2, cp2, zs2, hat, c0, hown, -⟩ := hv.at_ hxl.symm htl
          have hzs : zs2 = mid c sw e1 cn j := by
            have h1 := (HMD.out j hj).2
            rw [← hxs] at h1
            rw [← h1]
            simp only [List.getD, List.getElem?_map] at hat ⊢
            rw [List.getElem?_eq_getElem (by omega)] at hat ⊢
            simp only [Option.getD_some] at hat
            simp [hat]
          have hzl : zs2.length = cn := by rw [hzs, mid_len hj]
          obtain ⟨gz, rfl⟩ : ∃ gz, a2 = some ⟨gz, 0, none⟩ := nat_pos_form hown.1 (show 0 < zs2.length by omega)
          rw [hzl] at c0 hown hat
          have z0 : wr.cell? ⟨gz, j, none⟩ = some (.int .i64 (zs2.getD j 0)) := by
            have h1 := hown.1
            rw [hzl] at h1
            rw [h1.cellAt j (by omega)]
            simp [List.getD, show j < zs2.length by omega]
          have zf : wr.frozen? ⟨gz, j, none⟩ = false := by have h1 := hown.1; rw [hzl] at h1; exact h1.frozenAt j
          obtain ⟨pj, hpj⟩ : ∃ p, (ups c sw e1 j).2 = p := ⟨_, rfl⟩
          have hup := HUP.out j hjl
          rw [hpj] at hup htk
          have HPJ := Go.Lib.hid hpj
          have hsw1 : 1 ≤ sw := hup.2.2.2.2.1
          have hp0 := hup.1
          have hp8 := hup.2.1
          have d7 := (hB3.cell (p := ⟨b, off + q * 9 + 7, none⟩) (Nat.lt_of_lt_of_le hbB hBw)).trans HD7.out
          have HV := Go.Lib.hid hv
          have HLT := Go.Lib.hid hlt
          have HXS := Go.Lib.hid hxs
          have HTK := Go.Lib.hid htk
          have H3 := Go.Lib.hid h3
          have HB3 := Go.Lib.hid hB3
          have HAT := Go.Lib.hid hat
          have HZS := Go.Lib.hid hzs
          have HXL := Go.Lib.hid hxl
          have HFI := Go.Lib.hid (emod_fits hc0 hc8 (show (1 : Int) ≤ 2 ^ sw.toNat from p2_pos _) (2 ^ pj.toNat) (p2_pos _))
          have HST := Go.Lib.hid (show (mid c sw e1 cn j).set j (c / 2 ^ pj.toNat % 2 ^ sw.toNat) = mid c sw e1 cn (j + 1) ∧ (ups c sw e1 (j + 1)).2 = pj + sw from by
            have h1 := mid_set (c := c) (sw := sw) (e := e1) hjl
            rw [hpj] at h1
            exact ⟨h1, by simp only [ups]; rw [hpj]⟩)
          have hgzb : gz < w1.heap.size := hlt gz (.inr ⟨(.slice (some ⟨gz, 0, none⟩) cn cp2, zs2), by rw [← hat]; simp [List.getD, hxl, htl], rfl⟩)
          have hghb : gh < w1.heap.size := hlt gh (.inl rfl)
          have hghz : ¬ gh = gz := by
            intro e
            subst e
            rcases hv.ne (.slice (some ⟨gh, 0, none⟩) cn cp2, zs2) (by rw [← hat]; simp [List.getD, hxl, htl]) with h1 | h1
            · simp [Value.ownBlock] at h1
            · exact h1 rfl
          have hgz0 : w.heap.size ≤ gz := (hv.blk (g := gz) (.inr ⟨(.slice (some ⟨gz, 0, none⟩) cn cp2, zs2), by rw [← hat]; simp [List.getD, hxl, htl], rfl⟩)).1
          have hbB' : b < w.heap.size := Nat.lt_of_lt_of_le hbB hBw
          clear hv hlt hxs htk h3 hB3 hat hzs hxl hown hpj hup hzl HC
          go_upto_region 9 with fail
          refine wp_region_held_drew (S := (fun w' => w'.cell? ⟨gh, t, none⟩ = some (.slice (some ⟨gz, 0, none⟩) cn cp2) ∧ w'.cell? ⟨b, off + q * 9 + 7, none⟩ = some (.int .i64 sw))) (by kernel_rfl) ?_ (fun hHeld => ?_)
          · first | exact ⟨c0, d7⟩ | exact ⟨c5, d75⟩ | exact ⟨(World.cell?_setCell_other _ _ _ _ (by simp <;> omega)).trans c5, (World.cell?_setCell_other _ _ _ _ (by simp <;> omega)).trans d75⟩
          refine tL 0 (some 35) ?_
          refine tL 1 (some 36) ?_
          refine tL 2 (some 37) ?_
          refine tL 3 (some 38) ?_
          refine tL 4 (some 39) ?_
          refine tL 5 (some 40) ?_
          refine tL 6 (some 41) ?_
          refine tL 7 (some 42) ?_
          refine tL 8 (some 43) ?_
          refine tL 9 (some 44) ?_
          refine tL 10 (some 45) ?_
          refine tL 11 (some 46) ?_
          refine tL 12 (some 47) ?_
          refine wpAnyH_ready (rs := [13]) (by kernel_rfl) (by simp) ?_
          refine AllReadyH.cons (o := _) rfl (fun K hK => ?_) AllReadyH.nil
          go_simp
          refine (c_takeOne w1.heap.size c pj sw _ (show TKW w1.heap.size c pj wr.drew from ⟨HTK.out.c1, HTK.out.c2⟩) hc0 hp0 hp8 hsw1).mono ?_; rintro e w5 ⟨rfl, htk5, hb5, hs5, hy5⟩; have z5 := (World.cell?_of_block (w := wr) (w' := w5) (a := ⟨gz, j, none⟩) (hy5 gz (by omega))).trans z0; have f5 := (World.frozen?_of_block (w := wr) (w' := w5) (a := ⟨gz, j, none⟩) (hy5 gz (by omega))).trans zf; have c5 := (World.cell?_of_block (w := wr) (w' := w5) (a := ⟨gh, t, none⟩) (hy5 gh (by omega))).trans c0; have d75 := (World.cell?_of_block (w := wr) (w' := w5) (a := ⟨b, off + q * 9 + 7, none⟩) (hy5 b (by omega))).trans d7; have HT5 := Go.Lib.hid htk5; have HB5 := Go.Lib.hid (show Below (w1.heap.size + 1) wr w5 from ⟨hb5.os, hb5.tape, hb5.output, hb5.size, hb5.block⟩); have HY5 := Go.Lib.hid (show ∀ y, y ≠ w1.heap.size + 1 → w5.heap[y]? = wr.heap[y]? from hy5); clear htk5 hb5 hs5 hy5
          (try go_wp2_with fail)
          (try clear hHeld)
          refine hK.out _ _ ?_ (fun hHeld => ?_)
          · first | exact ⟨c0, d7⟩ | exact ⟨c5, d75⟩ | exact ⟨(World.cell?_setCell_other _ _ _ _ (by simp <;> omega)).trans c5, (World.cell?_setCell_other _ _ _ _ (by simp <;> omega)).trans d75⟩
          clear hK K
          (try simp only [Act.put, List.setIfInBounds_toArray, List.set_cons_zero, List.set_cons_succ])
          refine tL 14 (some 49) ?_
          refine wpAnyH_ready (rs := [15]) (by kernel_rfl) (by simp) ?_
          refine AllReadyH.cons (o := _) rfl (fun K hK => ?_) AllReadyH.nil
          go_simp
          (try clear hHeld)
          refine hK.out _ _ ?_ (fun hHeld => ?_)
          · first | exact ⟨c0, d7⟩ | exact ⟨c5, d75⟩ | exact ⟨(World.cell?_setCell_other _ _ _ _ (by simp <;> omega)).trans c5, (World.cell?_setCell_other _ _ _ _ (by simp <;> omega)).trans d75⟩
          clear hK K
          (try simp only [Act.put, List.setIfInBounds_toArray, List.set_cons_zero, List.set_cons_succ])
          refine wpAnyH_done (by kernel_rfl) ?_ _
          clear hHeld
          have HQ := Go.Lib.hid (cvs_next (j := j) hWb HV.out HLT.out HXS.out (show t < xs.length by rw [HXL.out]; exact htl) HAT.out H3.out hs3 HB3.out HT5.out HB5.out HY5.out HFI.out)
          rw [HZS.out, HST.out.1, List.set_set] at HQ
          clear c0 d7 c5 d75 z0 zf z5 f5
          go_wp2_with fail
          go_roundw
          case rel => exact ⟨j + 1, by omega, by go_num, by rw [HST.out.2]; exact HQ.out⟩
          case measure => simp [intOf] <;> omega
        · have hji : ¬ (j : Int) < cn := by omega
          obtain rfl : j = cn := by omega
          go_wp2_with fail
          go_roundw
          case rel => exact ⟨t + 1, by omega, by go_num, by rw [HNX.out.1, HNX.out.2]; exact HC.out⟩
          case measure => simp [intOf] <;> omega
    · have hti : ¬ (t : Int) < P.length := by omega
      obtain rfl : t = P.length := by omega
      go_wp2_with fail
      go_ret
      obtain ⟨xs, hv, -, hxs, -, -, hs3, hB3⟩ := HC.out
      exact ⟨_, xs, rfl, hv, by rw [hxs, midw_full]; unfold unpN; rw [HPP.out], HQ3.out.trans hB3⟩
end Go.Proofs.YtdfcjfielkpkiaaGreat

/-! A number as values: the model. -/
namespace Go.Proofs.YtdfcjfielkpkiaaGreat
open Go.ChangeShapes Go.WideShapes Go.ChangeAt Go.RowKit Go.Maps
set_option linter.unusedVariables false
set_option maxRecDepth 100000


theorem Boxed.belowW {s0 s1 s2 s3 s4 : SL} {w wr w' : World} (h : Boxed s0 s1 s2 s3 s4 w wr) (hb : Below (w.heap.size + 1) wr w') : Boxed s0 s1 s2 s3 s4 w w' := h.belowB hb (Nat.lt_succ_self _)
theorem own_oneCell {w : World} {base : Nat} {v : Value} {zs : List Int} (h : w.ownsInts base 3 .i64 v zs) : ∀ u ∈ [v], u.oneCell' = true := by
  obtain ⟨a, cap, rfl, -⟩ := own_form h
  intro u hu
  simp at hu
  subst hu
  rfl
theorem app_keep {w3 w4 : World} {o : Obj} {v : Value} {k : Nat} (hg : (w3.drew.alloc o).grownBy w4 v.ownBlock) (hk : k < w3.heap.size) (hv : ∀ x, v.ownBlock = some x → k + 1 ≤ x) : w4.heap[k]? = w3.heap[k]? :=
  (hg.block k (Nat.lt_trans hk (alloc_ltS w3.drew o)) (fun e => by have := hv k e.symm; omega)).trans (Below.heap_alloc w3.drew _ _ hk)
/-- The outer round's state. -/
def UnR (P : List Int) (ns : List ND) (c : Int) (w w0 : World) (ov av i : Value) (wr : World) : Prop := ∃ (t : Nat) (xs : List (Value × List Int)), t ≤ P.length ∧ i = .int .i64 t ∧ av = .int .i64 (upw P ns c t).2 ∧ ValRow (w.heap.size + 1) wr ov xs ∧ xs.map Prod.snd = (upw P ns c t).1 ∧ Below (w.heap.size + 1) w0 wr
/-- The inner round's. -/
def UnJ (c sw e1 si : Int) (cn g1 : Nat) (w2 : World) (av i : Value) (wi : World) : Prop := ∃ (j : Nat) (cv : Value), j ≤ cn ∧ i = .int .i64 j ∧ av = .int .i64 (ups c sw e1 j).2 ∧ wi.heap[g1]? = some (.cells #[.int .i64 si, .int .i64 sw] 117 (0, 0)) ∧ wi.heap[g1 + 1]? = some (.cells #[cv] 74 (0, 0)) ∧ wi.ownsInts (g1 + 2) 3 .i64 cv (ups c sw e1 j).1 ∧ Below g1 w2 wi
theorem unj_next {c sw e1 si : Int} {cn g1 j : Nat} {w2 wi wx w4 : World} {cv : Value} {g cap : Nat} {z pj : Int} (hj : j < cn) (hpj : (ups c sw e1 j).2 = pj) (hz : c / 2 ^ pj.toNat % 2 ^ sw.toNat = z) (hfz : fits z)
    (h1 : wi.heap[g1]? = some (.cells #[.int .i64 si, .int .i64 sw] 117 (0, 0))) (h2 : wi.heap[g1 + 1]? = some (.cells #[cv] 74 (0, 0))) (ho : wi.ownsInts (g1 + 2) 3 .i64 cv (ups c sw e1 j).1) (hB : Below g1 w2 wi) (hx : Below wi.heap.size wi wx)
    (hown : w4.ownsRow (g1 + 2) 3 1 (.slice (some ⟨g, 0, none⟩) (j + 1) cap) (j + 1) ((ups c sw e1 j).1.map (Value.int .i64) ++ [.int .i64 z])) (hg : wx.grownBy w4 cv.ownBlock) :
    UnJ c sw e1 si cn g1 w2 (.int .i64 (pj + sw)) (.int .i64 ((j : Int) + 1)) (w4.setCell ⟨g1 + 1, 0, none⟩ (.slice (some ⟨g, 0, none⟩) (j + 1) cap)) := by
  have hs2 := (Array.getElem?_eq_some_iff.1 h2).1
  have hk : ∀ x, x < g1 + 2 → w4.heap[x]? = wi.heap[x]? := fun x hx' => (hg.block x (by have := hx.size; omega) (fun e => by have := (ho.1.lt x e.symm).1; omega)).trans (hx.block x (by omega))
  have hl := ups_len c sw e1 j
  have hgl : g1 + 2 ≤ g := (hown.lt g rfl).1
  refine ⟨j + 1, _, hj, by go_num, by simp only [ups]; rw [hpj], (heap_setCell_other _ _ _ _ (by simp)).trans ((hk _ (by omega)).trans h1), one_setCell ((hk _ (by omega)).trans h2), ?_, ?_⟩
  · have h3 : w4.ownsInts (g1 + 2) 3 .i64 (.slice (some ⟨g, 0, none⟩) (j + 1) cap) ((ups c sw e1 j).1 ++ [z]) := ho.appended (by rw [hl]; exact hown) hfz
    have h4 : (ups c sw e1 (j + 1)).1 = (ups c sw e1 j).1 ++ [z] := by simp only [ups]; rw [hpj, hz]
    rw [h4]
    exact own_block h3 (fun x hx1 _ hx3 => heap_setCell_other _ _ _ _ (by show x ≠ g1 + 1; omega))
  · have hw4 : Below g1 w2 w4 := (hB.trans (hx.mono (by omega))).grown hg (by have := hx.size; omega) (fun x hx' => by have := (ho.1.lt x hx').1; omega)
    exact hw4.setCell (Nat.le_succ _) _

set_option maxHeartbeats 16000000 in
theorem c_l5Unpack {B : Nat} {s0 s1 s2 s3 s4 : SL} {M : MD} {a : Option Addr} {len cap : Nat} {P : List Int} (kind c : Int) (w : World) (hBw : B ≤ w.heap.size) (h : ModelAt B w s0 s1 s2 s3 s4 M) (hp : IntsAt B w a len cap P) (hP : P = plcs kind M.ns M.ns.length) (h60 : s0.len ≤ 60) (hb : allBits kind M.ns ≤ 8) (hc0 : 0 ≤ c) (hc8 : c < 256) :
    Calls Tryz.prog 86 #[.agg (mcells s0 s1 s2 s3 s4).toArray, .slice a len cap, .int .i64 c] w (UnpP kind M.ns c w) := by
  have HMA := Go.Lib.hid h
  have HPA := Go.Lib.hid hp
  have HB := Go.Lib.hid hb
  have HPP := Go.Lib.hid hP.symm
  have hlp : P.length = len := hp.1
  have hnl : M.ns.length = s0.len := h.ns.1
  have hp60 : P.length ≤ 60 := by have := plcs_len kind M.ns M.ns.length; rw [← hP] at this; omega
  have HPL := Go.Lib.hid (show ∀ k, k < P.length → 0 ≤ P.getD k 0 ∧ P.getD k 0 < s0.len from fun k hk => by subst hP; have := plcs_at hk; omega)
  obtain ⟨i1, hi1, hz01, hz11, hz21⟩ := info_parts intInfo
  obtain ⟨i2, hi2, hz02, hz12, hz22⟩ := info_parts valueInfo
  have HI1 := Go.Lib.hid hi1
  have HI2 := Go.Lib.hid hi2
  have HZ01 := Go.Lib.hid hz01
  have HZ02 := Go.Lib.hid hz02
  have HZ11 := Go.Lib.hid hz11
  have HZ12 := Go.Lib.hid hz12
  have HZ21 := Go.Lib.hid hz21
  have HZ22 := Go.Lib.hid hz22
  clear hi1 hi2 hz01 hz02 hz11 hz12 hz21 hz22 h hp hP hb hnl
  subst hlp
  obtain ⟨a0, l0, p0⟩ := s0
  simp only [mcells] at *
  go_enter Tryz.func86, Tryz.ntmps86
  go_upto_region 1 with fail
  refine code_gen (R := fun wb => Boxed ⟨a0, l0, p0⟩ s1 s2 s3 s4 w wb) (Boxed.new _ _ _ _ _ _ _) ?_
  intro w0 hbox
  have HX0 := Go.Lib.hid hbox
  clear hbox
  go_wp2_with fail
  go_loopw [7, 8, 9] (fun ov av i wr => UnR P M.ns c w w0 ov av i wr) (fun _ _ i _ => P.length - (intOf i).toNat)
  case atStart => exact ⟨0, [], by omega, rfl, rfl, ValRow.nil _ _, rfl, Below.refl _ _⟩
  case round =>
    obtain ⟨t, xs, ht, rfl, rfl, hv, hxs, hBr⟩ := hrel
    obtain ⟨wo, rfl⟩ : ∃ wo, wo = wr := ⟨_, rfl⟩
    have HV := Go.Lib.hid hv
    have HXS := Go.Lib.hid hxs
    have HBr := Go.Lib.hid hBr
    have hxl : xs.length = t := by have := congrArg List.length hxs; rw [upw_len] at this; simpa using this
    have HXL := Go.Lib.hid hxl
    have HXB := Go.Lib.hid (HX0.out.belowW hBr)
    have hlw : w.heap.size + 1 ≤ wo.heap.size := HXB.out.1
    obtain ⟨e1, he1⟩ : ∃ e1, (upw P M.ns c t).2 = e1 := ⟨_, rfl⟩
    rw [he1]
    have HE1 := Go.Lib.hid he1
    clear hv hxs hBr hxl he1
    by_cases htl : t < P.length
    · have hti : (t : Int) < P.length := by omega
      obtain ⟨hlt, g0, -, -, -, -, hBx⟩ := HXB.out
      obtain ⟨p, b1, o1, hp, -, rfl, hbB1, e0⟩ := int_at (HPA.out.below (hBx.mono hBw)) htl
      have hpr := HPL.out t htl
      rw [hp] at hpr
      obtain ⟨q, rfl⟩ : ∃ q : Nat, p = q := ⟨p.toNat, by omega⟩
      have hql : (q : Int) < l0 := hpr.2
      obtain ⟨nd, b, off, hnd, rfl, hbB, hc⟩ := kind_at ((HMA.out.ns.rows.below (hBx.mono hBw)).nodes) (show q < l0 by omega)
      obtain ⟨-, -, -, -, -, -, d6, d7, -⟩ := node_cells hc
      have HND := Go.Lib.hid (show (M.ns.getD (P.getD t 0).toNat default) = nd by rw [hp]; simpa using hnd)
      obtain ⟨k0, pa', pb, pc, n, m, si, sw, nm⟩ := nd
      simp only at d6 d7
      have hbr : b < wo.heap.size := Nat.lt_of_lt_of_le hbB (Nat.le_trans hBw hBx.size)
      have hbr1 : b1 < wo.heap.size := Nat.lt_of_lt_of_le hbB1 (Nat.le_trans hBw hBx.size)
      have hcb := cellsN_bound si sw
      obtain ⟨cn, hcn⟩ : ∃ cn : Nat, cellsN si sw = cn := ⟨(cellsN si sw).toNat, by omega⟩
      have hcn8 : cn ≤ 4 := by omega
      have HCN := Go.Lib.hid hcn
      have HUP := Go.Lib.hid (show ∀ j, j < cn → 0 ≤ (ups c sw e1 j).2 ∧ (ups c sw e1 j).2 + sw ≤ 8 ∧ SOK si sw from fun j hj => up_at HB.out HPP.out htl HND.out (by show j < (cellsN si sw).toNat; rw [HCN.out]; exact hj) HE1.out)
      have HNX := Go.Lib.hid (show (upw P M.ns c (t + 1)).1 = (upw P M.ns c t).1 ++ [(ups c sw e1 cn).1] ∧ (upw P M.ns c (t + 1)).2 = (ups c sw e1 cn).2 from by
        simp only [upw]; rw [HND.out, HE1.out]; simp only; rw [HCN.out]; exact ⟨rfl, rfl⟩)
      clear hc hnd hp hpr hcb hcn hBx
      go_upto_region 6 with fail
      refine wp_region_held_drew (S := (fun w' => w'.cell? ⟨w.heap.size, 0, none⟩ = some (.slice (some ⟨b, off, none⟩) l0 p0) ∧ w'.cell? ⟨b1, o1 + t, none⟩ = some (.int .i64 q) ∧ w'.cell? ⟨b, off + q * 9 + 6, none⟩ = some (.int .i64 si) ∧ w'.cell? ⟨b, off + q * 9 + 7, none⟩ = some (.int .i64 sw))) (by kernel_rfl) ?_ (fun hHeld => ?_)
      · exact ⟨keepc (by go_grown) hlt g0, keepc (by go_grown) hbr1 e0, keepc (by go_grown) hbr d6, keepc (by go_grown) hbr d7⟩
      refine tL 0 (some 19) ?_
      refine tL 1 (some 20) ?_
      refine tL 2 (some 21) ?_
      refine tL 3 (some 22) ?_
      refine tL 4 (some 23) ?_
      refine tL 5 (some 24) ?_
      refine tL 6 (some 25) ?_
      refine tL 7 (some 26) ?_
      refine tL 8 (some 27) ?_
      refine wpAnyH_ready (rs := [9]) (by kernel_rfl) (by simp) ?_
      refine AllReadyH.cons (o := _) rfl (fun K hK => ?_) AllReadyH.nil
      go_simp
      (try clear hHeld)
      refine hK.out _ _ ?_ (fun hHeld => ?_)
      · exact ⟨keepc (by go_grown) hlt g0, keepc (by go_grown) hbr1 e0, keepc (by go_grown) hbr d6, keepc (by go_grown) hbr d7⟩
      clear hK K
      (try simp only [Act.put, List.setIfInBounds_toArray, List.set_cons_zero, List.set_cons_succ])
      refine wpAnyH_ready (rs := [10]) (by kernel_rfl) (by simp) ?_
      refine AllReadyH.cons (o := _) rfl (fun K hK => ?_) AllReadyH.nil
      go_simp
      (try clear hHeld)
      refine hK.out _ _ ?_ (fun hHeld => ?_)
      · exact ⟨keepc (by go_grown) hlt g0, keepc (by go_grown) hbr1 e0, keepc (by go_grown) hbr d6, keepc (by go_grown) hbr d7⟩
      clear hK K
      (try simp only [Act.put, List.setIfInBounds_toArray, List.set_cons_zero, List.set_cons_succ])
      refine wpAnyH_done (by kernel_rfl) ?_ _
      clear hHeld
      go_upto_region 7 with fail
      refine code_gen (R := fun wb => wb.heap[wo.heap.size]? = some (.cells #[.int .i64 si, .int .i64 sw] 117 (0, 0)) ∧ wb.heap.size = wo.heap.size + 1 ∧ Below wo.heap.size wo wb) ⟨?_, by simp, by go_grown⟩ ?_
      · first
          | exact (MapKept.heap_alloc _ _).1
          | (simp [World.setCells]; done)
          | exact two_new _ _ _ _ _
      rintro w1 ⟨k1, ks1, hb1⟩
      have HK1 := Go.Lib.hid k1
      have HB1 := Go.Lib.hid hb1
      clear k1 hb1 g0 e0 d6 d7 hbr hbr1 hlt
      go_upto_region 8 with fail
      refine code_gen (R := fun wb => wb.heap[wo.heap.size]? = some (.cells #[.int .i64 si, .int .i64 sw] 117 (0, 0)) ∧ wb.heap[wo.heap.size + 1]? = some (.cells #[.slice none 0 0] 74 (0, 0)) ∧ Below wo.heap.size wo wb) ⟨?_, ?_, ?_⟩ ?_
      · first
          | (rw [heap_setCell_other _ _ _ _ (by simp [ks1]), (MapKept.heap_alloc _ _).2 _ (by omega)]; exact HK1.out)
          | (rw [(MapKept.heap_alloc _ _).2 _ (by omega)]; exact HK1.out)
      · rw [← ks1]
        first
          | exact one_setCell (v := .slice none 0 0) (MapKept.heap_alloc _ _).1
          | exact (MapKept.heap_alloc _ _).1
      · exact HB1.out.trans (Below.mono (show Below w1.heap.size w1 _ by go_grown) HB1.out.size)
      rintro w2 ⟨k1, k2, hb2⟩
      obtain ⟨g1, hg1⟩ : ∃ g1, wo.heap.size = g1 := ⟨_, rfl⟩
      rw [hg1] at k1 k2
      have HG1 := Go.Lib.hid hg1
      have HK2 := Go.Lib.hid (show UnJ c sw e1 si cn g1 w2 (.int .i64 e1) (.int .i64 0) w2 from ⟨0, _, by omega, rfl, rfl, k1, k2, World.ownsInts_nil _ _ _ _, Below.refl _ _⟩)
      have HB2 := Go.Lib.hid hb2
      have HW2 := Go.Lib.hid (show wo.heap.size + 1 = g1 + 1 by omega)
      rw [hg1]
      clear k1 k2 hb2 HK1 HB1 ks1 hg1
      go_wp2_with fail
      go_loopw [8, 12] (fun av i wi => UnJ c sw e1 si cn g1 w2 av i wi) (fun _ i _ => cn - (intOf i).toNat)
      case atStart => exact HK2.out
      case round =>
        obtain ⟨j, cv, hj, rfl, rfl, k1, k2, hown, hBj⟩ := hrel
        have HK1 := Go.Lib.hid k1
        have HKV := Go.Lib.hid k2
        have HOW := Go.Lib.hid hown
        have HBJ := Go.Lib.hid hBj
        have hl2 : g1 + 1 < wr.heap.size := (Array.getElem?_eq_some_iff.1 k2).1
        have y0 := cell_of_block (i := 0) k1 (v := .int .i64 si) rfl
        have y1 := cell_of_block (i := 1) k1 (v := .int .i64 sw) rfl
        obtain ⟨pj, hpj⟩ : ∃ p, (ups c sw e1 j).2 = p := ⟨_, rfl⟩
        rw [hpj]
        have HPJ := Go.Lib.hid hpj
        clear k1 k2 hown hBj hpj HK2
        go_wp2_with fail
        refine (c_SortCellsS si sw wr).mono ?_
        rintro e w3 ⟨he, hq⟩
        rw [HCN.out] at he
        subst he
        have k1 := (hq.block _ (by omega)).trans HK1.out
        have k2 := (hq.block _ hl2).trans HKV.out
        have HK13 := Go.Lib.hid k1
        have HK23 := Go.Lib.hid k2
        have HOW3 := Go.Lib.hid (ownI_below HOW.out hq)
        have HBJ3 := Go.Lib.hid (HBJ.out.trans (hq.mono (show g1 ≤ wr.heap.size by omega)))
        have x1 := cell_of_block (i := 1) k1 (v := .int .i64 sw) rfl
        have v0 := cell_of_block (i := 0) k2 (v := cv) rfl
        have f0 := free_of_block (i := 0) k2
        have hl3 : g1 + 1 < w3.heap.size := Nat.lt_of_lt_of_le hl2 hq.size
        clear k1 k2 hq HK1 HKV HOW HBJ y0 y1
        by_cases hjl : j < cn
        · have hji : (j : Int) < cn := by omega
          have hup := HUP.out j hjl
          rw [HPJ.out] at hup
          have hsw1 : 1 ≤ sw := hup.2.2.2.2.1
          have hp0 := hup.1
          have hp8 := hup.2.1
          have hpw := p2_pos sw.toNat
          have hpw2 : (2 : Int) ^ sw.toNat ≤ 256 := by have := p2_mono (i := sw.toNat) (j := 8) (by omega); simpa using this
          have hq0 : 0 ≤ c / 2 ^ pj.toNat := Int.ediv_nonneg hc0 (Int.le_of_lt (p2_pos _))
          have HFI := Go.Lib.hid (emod_fits hc0 hc8 (show (1 : Int) ≤ 2 ^ sw.toNat from p2_pos _) (2 ^ pj.toNat) (p2_pos _))
          have hpn : ¬ pj < 0 := by omega
          have hmin : min pj.toNat 64 = pj.toNat := by omega
          have hmin2 : min sw.toNat 64 = sw.toNat := by omega
          have HZ := Go.Lib.hid (show c / 2 ^ pj.toNat % 2 ^ sw.toNat = c / 2 ^ pj.toNat % 2 ^ sw.toNat from rfl)
          have HOJ := Go.Lib.hid (show w3.ownsRow (g1 + 2) 3 1 cv j ((ups c sw e1 j).1.map (Value.int .i64)) from by have h1 := HOW3.out.1; rw [ups_len] at h1; exact h1)
          clear hup
          go_upto_region 11 with fail
          have hu1 : IntKind.u64.wrap pj = pj := IntWalk.u64_in _ (by omega)
          have hu2 : IntKind.u64.wrap sw = sw := IntWalk.u64_in _ (by omega)
          have hw2 : IntKind.i64.wrap (2 ^ sw.toNat) = 2 ^ sw.toNat := IntWalk.i64_in _ (by omega)
          have hne : ¬ (2 : Int) ^ sw.toNat = 0 := by omega
          have htm : (c / 2 ^ pj.toNat).tmod (2 ^ sw.toNat) = c / 2 ^ pj.toNat % 2 ^ sw.toNat := Int.tmod_eq_emod_of_nonneg hq0
          obtain ⟨z, hz⟩ : ∃ z, c / 2 ^ pj.toNat % 2 ^ sw.toNat = z := ⟨_, rfl⟩
          rw [hz] at htm
          have HZZ := Go.Lib.hid hz
          clear hz
          go_region_law (first | (refine step_append_lies _ rfl (.tmp 36) (.tmp 46) 24 rfl (g1 + 2) 3 i1 (.int .i64 0) 1 8 Tryz.underlying24 HI1.out HZ01.out HZ11.out HZ21.out rfl (by decide) cv j _ (by simp [Act.eval]) (HOJ.out.drew.alloc _) ⟨w3.heap.size, 0, none⟩ 1 1 [.int .i64 z] (by simp [Act.eval]) rfl (cell_one_new w3.drew _ _) (ints_oneCell .i64 [z]) (by decide) (by unfold maxLen; omega) (by omega) (by simp; omega) _ rfl ?_; intro g cap' w4 hown' hgrow' hat hlt4; have v4 := (World.cell?_of_block (w := w3) (w' := w4) (a := ⟨g1 + 1, 0, none⟩) (app_keep hgrow' hl3 (fun x hx => (HOJ.out.lt x hx).1))).trans v0; have f4 := (World.frozen?_of_block (w := w3) (w' := w4) (a := ⟨g1 + 1, 0, none⟩) (app_keep hgrow' hl3 (fun x hx => (HOJ.out.lt x hx).1))).trans f0))
          all_goals
            have x4 : (w4.setCell ⟨g1 + 1, 0, none⟩ (.slice (some ⟨g, 0, none⟩) (j + 1) cap')).cell? ⟨g1, 1, none⟩ = some (.int .i64 sw) := (World.cell?_setCell_other _ _ _ _ (by simp)).trans ((World.cell?_of_block (w := w3) (w' := w4) (a := ⟨g1, 1, none⟩) (app_keep hgrow' (Nat.lt_of_succ_lt hl3) (fun x hx => Nat.le_of_succ_le (HOJ.out.lt x hx).1))).trans x1)
            have HQ := Go.Lib.hid (unj_next (cn := cn) hjl HPJ.out HZZ.out (by have := HFI.out; rw [HZZ.out] at this; exact this) HK13.out HK23.out HOW3.out HBJ3.out (show Below w3.heap.size w3 _ by go_grown) hown' hgrow')
            clear hown' hgrow' hat hlt4 hu1 hu2 hw2 hne htm
            go_wp2_with fail
            go_roundw
            case rel => exact HQ.out
            case measure => simp [intOf] <;> omega
        · have hji : ¬ (j : Int) < cn := by omega
          obtain rfl : j = cn := by omega
          have HB3 := Go.Lib.hid (HB2.out.trans (HBJ3.out.mono (show wo.heap.size ≤ g1 from Nat.le_of_eq HG1.out)))
          have HV3 := Go.Lib.hid (HV.out.below HB3.out)
          have HFR := Go.Lib.hid (show ∀ x, Value.ownBlock cv = some x → ¬ ValBlk _ xs x from fun x hx hb => by have h1 := (HV.out.blk hb).2; have h2 := (HOW3.out.1.lt x hx).1; have h3 := HG1.out; omega)
          have HO3 := Go.Lib.hid (show w3.ownsInts (w.heap.size + 1) 3 .i64 cv (ups c sw e1 j).1 from ⟨HOW3.out.1.mono (by have := HG1.out; omega), HOW3.out.2⟩)
          have hw3 : w.heap.size + 1 ≤ w3.heap.size := by have := HB3.out.size; omega
          have HC1 := Go.Lib.hid (own_oneCell HO3.out)
          clear x1 f0
          go_wp2_with (first | (at_builtin; refine wpList_append_own_at _ rfl _ _ 30 rfl (w.heap.size + 1) 74 i2 _ 1 24 Tryz.underlying30 HI2.out HZ02.out HZ12.out HZ22.out rfl (by decide) _ _ _ rfl (HV3.out.row.alloc _) ⟨w3.heap.size, 0, none⟩ 1 1 [cv] rfl rfl (cell_one_new _ _ _) HC1.out (by unfold maxLen; have := HXL.out; omega) (by have := HXL.out; omega) (by simp; omega) ?_; intro v' w4 hown' hgrow' hnil hloc) | go_in)
          have HA := Go.Lib.hid (HV3.out.push HO3.out HFR.out hown' hgrow' hloc)
          have HB4 := Go.Lib.hid (((HBr.out.trans (HB3.out.mono hlw)).alloc hw3 _).grown hgrow' (by simp; omega) (fun x hx => (HV3.out.row.lt x hx).1))
          clear hown' hgrow' hnil hloc v0
          go_roundw
          case rel => exact ⟨t + 1, _, by omega, by go_num, by rw [HNX.out.2, HPJ.out], HA.out, by rw [List.map_append, HXS.out, HNX.out.1]; rfl, HB4.out⟩
          case measure => simp [intOf] <;> omega
    · have hti : ¬ (t : Int) < P.length := by omega
      obtain rfl : t = P.length := by omega
      have HE := Go.Lib.hid (HX0.out.2.2.2.2.2.2.trans (HBr.out.mono (Nat.le_succ _)))
      go_wp2_with fail
      go_ret
      exact ⟨_, _, rfl, HV.out.mono (Nat.le_succ _), by rw [HXS.out]; unfold unpN; rw [HPP.out], HE.out⟩
end Go.Proofs.YtdfcjfielkpkiaaGreat

/-! The state and the input of a number. -/
namespace Go.Proofs.YtdfcjfielkpkiaaGreat
open Go.ChangeShapes Go.WideShapes Go.ChangeAt Go.RowKit Go.Maps
set_option linter.unusedVariables false
set_option maxRecDepth 100000


def OfIs (kind : Int) (M : MD) (c : Int) (zss : List (List Int)) (b : Bool) : Prop := (CodeOkN kind M c ∧ zss = unpN kind M.ns c ∧ b = true) ∨ (¬ CodeOkN kind M c ∧ zss = [] ∧ b = false)
theorem OfIs.inj {kind : Int} {M : MD} {c : Int} {z1 z2 : List (List Int)} {b d : Bool} (h : OfIs kind M c z1 b) (k : OfIs kind M c z2 d) : z1 = z2 ∧ b = d := by
  rcases h with ⟨h1, rfl, rfl⟩ | ⟨h1, rfl, rfl⟩ <;> rcases k with ⟨k1, rfl, rfl⟩ | ⟨k1, rfl, rfl⟩
  · exact ⟨rfl, rfl⟩
  · exact absurd h1 k1
  · exact absurd k1 h1
  · exact ⟨rfl, rfl⟩
theorem unp_ok (kind : Int) (ns : List ND) (c : Int) (hn : ns.length ≤ 60) : (unpN kind ns c).length ≤ 60 ∧ ∀ z ∈ unpN kind ns c, z.length ≤ 4 := by
  have key : ∀ (P : List Int) (k : Nat), ∀ z ∈ (upw P ns c k).1, z.length ≤ 4 := fun P k => by
    induction k with
    | zero => intro z hz; simp [upw] at hz
    | succ k ih =>
      intro z hz
      simp only [upw, List.mem_append, List.mem_singleton] at hz
      rcases hz with hz | rfl
      · exact ih z hz
      · rw [ups_len]; have := cellsN_bound (ns.getD (P.getD k 0).toNat default).si (ns.getD (P.getD k 0).toNat default).sw; omega
  refine ⟨?_, key _ _⟩
  unfold unpN; rw [upw_len]; have := plcs_len kind ns ns.length; omega
theorem OfIs.small {kind : Int} {M : MD} {c : Int} {zss : List (List Int)} {b : Bool} (h : OfIs kind M c zss b) : zss.length ≤ 60 ∧ ∀ z ∈ zss, z.length ≤ 4 := by
  rcases h with ⟨h1, rfl, -⟩ | ⟨-, rfl, -⟩
  · exact unp_ok _ _ _ (code0_len h1.1)
  · exact ⟨by simp, fun z hz => by simp at hz⟩
def OfQ (kind : Int) (M : MD) (c : Int) (w : World) (e : Ending) (w' : World) : Prop := ∃ v xs b, e = .returned (.tuple #[v, .bool b]) ∧ ValRow w.heap.size w' v xs ∧ OfIs kind M c (xs.map Prod.snd) b ∧ Below w.heap.size w w'
theorem code_lt {n : Int} {c : Int} (h8 : n ≤ 8) (hc : c < 2 ^ n.toNat) : c < 256 := by
  have := p2_mono (i := n.toNat) (j := 8) (by omega)
  have e : (2 : Int) ^ 8 = 256 := by decide
  omega

set_option maxHeartbeats 4000000 in
theorem c_codeOk {B : Nat} {a0 : Option Addr} {l0 p0 : Nat} {ns : List ND} (kind c : Int) (w : World) (hBw : B ≤ w.heap.size) (h : NodesAt B w a0 l0 p0 ns) (h60 : l0 ≤ 60) (hb : allBits kind ns ≤ 8) :
    Calls Tryz.prog 88 #[.slice a0 l0 p0, .int .i64 kind, .int .i64 c] w fun e w' => BoolIs (0 ≤ c ∧ c < 2 ^ (allBits kind ns).toNat) e ∧ Below w.heap.size w w' := by
  have HN := Go.Lib.hid h
  have hr := (allBits_range kind ns).1
  have HAB := Go.Lib.hid hb
  obtain ⟨n, hn⟩ : ∃ n, allBits kind ns = n := ⟨_, rfl⟩
  rw [hn] at hb hr ⊢
  have HNN := Go.Lib.hid hn
  clear h hn
  by_cases hc : 0 ≤ c
  · have hp := p2_pos n.toNat
    have hp8 : (2 : Int) ^ n.toNat ≤ 256 := by have := p2_mono (i := n.toNat) (j := 8) (by omega); have e : (2 : Int) ^ 8 = 256 := by decide
                                               omega
    have hw1 : wrap64 (2 ^ n.toNat) = 2 ^ n.toNat := IntWalk.wrap64_in _ (by omega)
    have hmin : min n.toNat 64 = n.toNat := by omega
    have hnn : ¬ n < 0 := by omega
    have hcd : decide (0 ≤ c) = true := decide_eq_true hc
    go_enter Tryz.func88, Tryz.ntmps88
    go_wp2_with fail
    refine (c_kindBits (B := B) kind w hBw HN.out h60).mono ?_
    rintro e w1 ⟨rfl, hq⟩
    rw [HNN.out]
    have HQ := Go.Lib.hid hq
    clear hq
    by_cases hlt : c < 2 ^ n.toNat
    · go_wp2_with fail
      go_ret
      exact ⟨⟨_, rfl, by simp [hc, hlt]⟩, HQ.out⟩
    · go_wp2_with fail
      go_ret
      exact ⟨⟨_, rfl, by simp; omega⟩, HQ.out⟩
  · have hcd : decide (0 ≤ c) = false := decide_eq_false hc
    go_enter Tryz.func88, Tryz.ntmps88
    go_wp2_with fail
    go_ret
    exact ⟨⟨_, rfl, by simp; omega⟩, Below.refl _ _⟩

set_option maxHeartbeats 4000000 in
theorem c_StateOfI {B : Nat} {s0 s1 s2 s3 s4 : SL} {M : MD} (c : Int) (w : World) (hBw : B ≤ w.heap.size) (h : ModelAt B w s0 s1 s2 s3 s4 M) :
    Calls Tryz.prog 33 #[.agg (mcells s0 s1 s2 s3 s4).toArray, .int .i64 c] w (OfQ 36 M c w) := by
  have HMA := Go.Lib.hid h
  clear h
  simp only [mcells]
  go_enter Tryz.func33, Tryz.ntmps33
  go_upto_region 1 with fail
  refine code_gen (R := fun wb => Boxed s0 s1 s2 s3 s4 w wb) (Boxed.new _ _ _ _ _ _ _) ?_
  intro w0 hbox
  have HX0 := Go.Lib.hid hbox
  obtain ⟨hlt, x0, x1, x2, x3, x4, hBx⟩ := hbox
  have hBk := Nat.le_trans hBw hBx.size
  have HM0 := Go.Lib.hid (HMA.out.below (hBx.mono hBw))
  clear hBx
  go_wp2_with fail
  refine (c_ModelCodeI (B := B) (s0 := s0) (s1 := s1) (s2 := s2) (s3 := s3) (s4 := s4) w0 hBk HM0.out).mono ?_
  rintro e w1 ⟨cc, rfl, hc, hq⟩
  have HX1 := Go.Lib.hid (HX0.out.below hq)
  clear hq x0 x1 x2 x3 x4 hlt HM0 hBk HX0
  by_cases hz : cc = 0
  · subst hz
    have HC := Go.Lib.hid hc
    have h60 : s0.len ≤ 60 := by have h1 := code0_len hc; rw [HMA.out.ns.1] at h1; exact h1
    have HBT := Go.Lib.hid (code0_bits hc)
    clear hc
    obtain ⟨hlt, x0, x1, x2, x3, x4, hBx⟩ := HX1.out
    have hBk := Nat.le_trans hBw hBx.size
    have HM := Go.Lib.hid (HMA.out.below (hBx.mono hBw))
    clear hBx
    go_wp2_with fail
    refine (c_codeOk (B := B) 36 c w1 hBk HM.out.ns h60 HBT.out.1).mono ?_
    rintro e w2 ⟨he, hq⟩
    have HX2 := Go.Lib.hid (HX1.out.below hq)
    clear hq x0 x1 x2 x3 x4 hlt HM hBk HX1
    by_cases hf : 0 ≤ c ∧ c < 2 ^ (allBits 36 M.ns).toNat
    · obtain rfl := boolIs_t hf he
      have HF := Go.Lib.hid (show CodeOkN 36 M c from ⟨HC.out, hf⟩)
      have hc0 := hf.1
      have hc8 := code_lt HBT.out.1 hf.2
      clear hf he
      obtain ⟨hlt, x0, x1, x2, x3, x4, hBx⟩ := HX2.out
      have hBk := Nat.le_trans hBw hBx.size
      have HM := Go.Lib.hid (HMA.out.below (hBx.mono hBw))
      have HBX := Go.Lib.hid hBx
      clear hBx
      go_wp2_with fail
      refine (c_codeValues (B := B) 36 c w2 hBk HM.out.ns h60 HBT.out.1 hc0 hc8).mono ?_
      rintro e w3 ⟨v, xs, rfl, hv, hxs, hq⟩
      have HV := Go.Lib.hid (hv.mono HBX.out.size)
      have HXS := Go.Lib.hid hxs
      have HB3 := Go.Lib.hid (HBX.out.trans (hq.mono HBX.out.size))
      clear hv hxs hq x0 x1 x2 x3 x4
      go_wp2_with fail
      go_ret2
      exact ⟨_, _, _, rfl, HV.out, .inl ⟨HF.out, HXS.out, rfl⟩, HB3.out⟩
    · obtain rfl := boolIs_f hf he
      have HF := Go.Lib.hid (show ¬ CodeOkN 36 M c from fun h => hf h.2)
      clear hf he
      go_wp2_with fail
      go_ret2
      exact ⟨_, [], _, rfl, ValRow.nil _ _, .inr ⟨HF.out, rfl, rfl⟩, HX2.out.2.2.2.2.2.2⟩
  · have HF := Go.Lib.hid (show ¬ CodeOkN 36 M c from fun h => hz (hc.inj h.1))
    clear hc
    go_wp2_with fail
    go_ret2
    exact ⟨_, [], _, rfl, ValRow.nil _ _, .inr ⟨HF.out, rfl, rfl⟩, HX1.out.2.2.2.2.2.2⟩

set_option maxHeartbeats 4000000 in
theorem c_StateOfS {B : Nat} {s0 s1 s2 s3 s4 : SL} {M : MD} (c : Int) (w : World) (hBw : B ≤ w.heap.size) (h : ModelAt B w s0 s1 s2 s3 s4 M) :
    Calls Tryz.prog 32 #[.agg (mcells s0 s1 s2 s3 s4).toArray, .int .i64 c] w (OfQ 36 M c w) := by
  have HMA := Go.Lib.hid h
  clear h
  simp only [mcells]
  go_enter Tryz.func32, Tryz.ntmps32
  go_upto_region 1 with fail
  refine code_gen (R := fun wb => Boxed s0 s1 s2 s3 s4 w wb) (Boxed.new _ _ _ _ _ _ _) ?_
  intro w0 hbox
  have HX0 := Go.Lib.hid hbox
  obtain ⟨hlt, x0, x1, x2, x3, x4, hBx⟩ := hbox
  have hBk := Nat.le_trans hBw hBx.size
  have HM0 := Go.Lib.hid (HMA.out.below (hBx.mono hBw))
  clear hBx
  go_wp2_with fail
  refine (c_ModelCodeS (B := B) (s0 := s0) (s1 := s1) (s2 := s2) (s3 := s3) (s4 := s4) w0 hBk HM0.out).mono ?_
  rintro e w1 ⟨cc, rfl, hc, hq⟩
  have HX1 := Go.Lib.hid (HX0.out.below hq)
  clear hq x0 x1 x2 x3 x4 hlt HM0 hBk HX0
  by_cases hz : cc = 0
  · subst hz
    have HC := Go.Lib.hid hc
    have h60 : s0.len ≤ 60 := by have h1 := code0_len hc; rw [HMA.out.ns.1] at h1; exact h1
    have HBT := Go.Lib.hid (code0_bits hc)
    clear hc
    obtain ⟨hlt, x0, x1, x2, x3, x4, hBx⟩ := HX1.out
    have hBk := Nat.le_trans hBw hBx.size
    have HM := Go.Lib.hid (HMA.out.below (hBx.mono hBw))
    clear hBx
    go_wp2_with fail
    refine (c_l2All (B := B) (s0 := s0) (s1 := s1) (s2 := s2) (s3 := s3) (s4 := s4) 36 w1 hBk HM.out h60).mono ?_
    rintro e w2 ⟨rfl, hq⟩
    have HX2 := Go.Lib.hid (HX1.out.below hq)
    obtain ⟨n, hn⟩ : ∃ n, allBits 36 M.ns = n := ⟨_, rfl⟩
    have hn0 : 0 ≤ n := by have := (allBits_range 36 M.ns).1; omega
    have hn8 : n ≤ 8 := by have := HBT.out.1; omega
    rw [hn]
    have HNN := Go.Lib.hid hn
    clear hq x0 x1 x2 x3 x4 hlt HM hBk HX1 hn
    have hp := p2_pos n.toNat
    have hp8 : (2 : Int) ^ n.toNat ≤ 256 := by have := p2_mono (i := n.toNat) (j := 8) (by omega); have e : (2 : Int) ^ 8 = 256 := by decide
                                               omega
    have hw1 : wrap64 (2 ^ n.toNat) = 2 ^ n.toNat := IntWalk.wrap64_in _ (by omega)
    have hmin : min n.toNat 64 = n.toNat := by omega
    go_wp2_with fail
    by_cases hf : 0 ≤ c ∧ c ≤ 2 ^ n.toNat - 1
    · refine (c_l1In_t c 0 (2 ^ n.toNat - 1) hf.1 hf.2 w2).mono ?_
      rintro e w2' ⟨rfl, rfl⟩
      have HF := Go.Lib.hid (show CodeOkN 36 M c from ⟨HC.out, hf.1, by rw [HNN.out]; omega⟩)
      have hc0 := hf.1
      have hc8 : c < 256 := by omega
      obtain ⟨hlt, x0, x1, x2, x3, x4, hBx⟩ := HX2.out
      have hBk := Nat.le_trans hBw hBx.size
      have HM := Go.Lib.hid (HMA.out.below (hBx.mono hBw))
      have HBX := Go.Lib.hid hBx
      clear hBx hf hw1 hmin
      go_upto_region 3 with fail
      refine wp_region_held_drew (S := (fun w' => w'.cell? ⟨w.heap.size, 0, none⟩ = some (.slice s0.a s0.len s0.cap) ∧ w'.cell? ⟨w.heap.size, 1, none⟩ = some (.slice s1.a s1.len s1.cap) ∧ w'.cell? ⟨w.heap.size, 2, none⟩ = some (.slice s2.a s2.len s2.cap) ∧ w'.cell? ⟨w.heap.size, 3, none⟩ = some (.slice s3.a s3.len s3.cap) ∧ w'.cell? ⟨w.heap.size, 4, none⟩ = some (.slice s4.a s4.len s4.cap))) (by kernel_rfl) ?_ (fun hHeld => ?_)
      · exact ⟨keepc (by go_grown) hlt x0, keepc (by go_grown) hlt x1, keepc (by go_grown) hlt x2, keepc (by go_grown) hlt x3, keepc (by go_grown) hlt x4⟩
      refine tL 0 (some 19) ?_
      refine tL 1 (some 20) ?_
      refine tL 3 (some 22) ?_
      refine wpAnyH_ready (rs := [2]) (by kernel_rfl) (by simp) ?_
      refine AllReadyH.cons (o := _) rfl (fun K hK => ?_) AllReadyH.nil
      go_simp
      refine (c_l2Places (B := B) (s0 := s0) (s1 := s1) (s2 := s2) (s3 := s3) (s4 := s4) 36 _ (Nat.le_trans hBk (by first | exact Nat.le_refl _ | go_size)) (HM.out.below (Below.mono (show Below w2.heap.size w2 _ by go_grown) hBk)) h60).mono ?_; rintro e w3 ⟨v, rfl, ho, hq⟩; have hb3 : Below w2.heap.size w2 w3 := bstep (by go_grown) (Nat.le_refl _) hq; obtain ⟨pa, pcap, rfl, -⟩ := own_form ho; have HP := Go.Lib.hid (own_ints ho rfl); clear ho hq
      (try go_wp2_with fail)
      (try clear hHeld)
      refine hK.out _ _ ?_ (fun hHeld => ?_)
      · exact ⟨keepc (by go_grown) hlt x0, keepc (by go_grown) hlt x1, keepc (by go_grown) hlt x2, keepc (by go_grown) hlt x3, keepc (by go_grown) hlt x4⟩
      clear hK K
      (try simp only [Act.put, List.setIfInBounds_toArray, List.set_cons_zero, List.set_cons_succ])
      refine wpAnyH_ready (rs := [4]) (by kernel_rfl) (by simp) ?_
      refine AllReadyH.cons (o := _) rfl (fun K hK => ?_) AllReadyH.nil
      go_simp
      refine (c_l5Unpack (B := w3.heap.size) (s0 := s0) (s1 := s1) (s2 := s2) (s3 := s3) (s4 := s4) 36 c w3 (Nat.le_refl _) ((HM.out.below (hb3.mono hBk)).mono (Nat.le_trans hBk hb3.size)) HP.out rfl h60 HBT.out.1 hc0 hc8).mono ?_; rintro e w4 ⟨v, xs, rfl, hv, hxs, hq⟩; have hb4 : Below w2.heap.size w2 w4 := bstep (by go_grown) (Nat.le_refl _) hq; have HV := Go.Lib.hid (hv.mono hb3.size); have HXS := Go.Lib.hid hxs; clear hq hv hxs
      (try go_wp2_with fail)
      (try clear hHeld)
      refine hK.out _ _ ?_ (fun hHeld => ?_)
      · exact ⟨keepc (by go_grown) hlt x0, keepc (by go_grown) hlt x1, keepc (by go_grown) hlt x2, keepc (by go_grown) hlt x3, keepc (by go_grown) hlt x4⟩
      clear hK K
      (try simp only [Act.put, List.setIfInBounds_toArray, List.set_cons_zero, List.set_cons_succ])
      refine tL 5 (some 4) ?_
      refine tL 6 (some 5) ?_
      refine wpAnyH_done (by kernel_rfl) ?_ _
      clear hHeld
      go_wp2_with fail
      go_ret2
      exact ⟨_, _, _, rfl, HV.out.mono HBX.out.size, .inl ⟨HF.out, HXS.out, rfl⟩, HBX.out.trans (Below.mono (show Below w2.heap.size w2 _ by go_grown) HBX.out.size)⟩
    · refine (c_l1In_f c 0 (2 ^ n.toNat - 1) (by omega) w2).mono ?_
      rintro e w2' ⟨rfl, rfl⟩
      have HF := Go.Lib.hid (show ¬ CodeOkN 36 M c from fun h => hf ⟨h.2.1, by have := h.2.2; rw [HNN.out] at this; omega⟩)
      clear hf hw1 hmin
      go_wp2_with fail
      go_ret2
      exact ⟨_, [], _, rfl, ValRow.nil _ _, .inr ⟨HF.out, rfl, rfl⟩, HX2.out.2.2.2.2.2.2⟩
  · have HF := Go.Lib.hid (show ¬ CodeOkN 36 M c from fun h => hz (hc.inj h.1))
    clear hc
    go_wp2_with fail
    go_ret2
    exact ⟨_, [], _, rfl, ValRow.nil _ _, .inr ⟨HF.out, rfl, rfl⟩, HX1.out.2.2.2.2.2.2⟩

set_option maxHeartbeats 4000000 in
theorem c_InputOfI {B : Nat} {s0 s1 s2 s3 s4 : SL} {M : MD} (c : Int) (w : World) (hBw : B ≤ w.heap.size) (h : ModelAt B w s0 s1 s2 s3 s4 M) :
    Calls Tryz.prog 35 #[.agg (mcells s0 s1 s2 s3 s4).toArray, .int .i64 c] w (OfQ 35 M c w) := by
  have HMA := Go.Lib.hid h
  clear h
  simp only [mcells]
  go_enter Tryz.func35, Tryz.ntmps35
  go_upto_region 1 with fail
  refine code_gen (R := fun wb => Boxed s0 s1 s2 s3 s4 w wb) (Boxed.new _ _ _ _ _ _ _) ?_
  intro w0 hbox
  have HX0 := Go.Lib.hid hbox
  obtain ⟨hlt, x0, x1, x2, x3, x4, hBx⟩ := hbox
  have hBk := Nat.le_trans hBw hBx.size
  have HM0 := Go.Lib.hid (HMA.out.below (hBx.mono hBw))
  clear hBx
  go_wp2_with fail
  refine (c_ModelCodeI (B := B) (s0 := s0) (s1 := s1) (s2 := s2) (s3 := s3) (s4 := s4) w0 hBk HM0.out).mono ?_
  rintro e w1 ⟨cc, rfl, hc, hq⟩
  have HX1 := Go.Lib.hid (HX0.out.below hq)
  clear hq x0 x1 x2 x3 x4 hlt HM0 hBk HX0
  by_cases hz : cc = 0
  · subst hz
    have HC := Go.Lib.hid hc
    have h60 : s0.len ≤ 60 := by have h1 := code0_len hc; rw [HMA.out.ns.1] at h1; exact h1
    have HBT := Go.Lib.hid (code0_bits hc)
    clear hc
    obtain ⟨hlt, x0, x1, x2, x3, x4, hBx⟩ := HX1.out
    have hBk := Nat.le_trans hBw hBx.size
    have HM := Go.Lib.hid (HMA.out.below (hBx.mono hBw))
    clear hBx
    go_wp2_with fail
    refine (c_codeOk (B := B) 35 c w1 hBk HM.out.ns h60 HBT.out.2).mono ?_
    rintro e w2 ⟨he, hq⟩
    have HX2 := Go.Lib.hid (HX1.out.below hq)
    clear hq x0 x1 x2 x3 x4 hlt HM hBk HX1
    by_cases hf : 0 ≤ c ∧ c < 2 ^ (allBits 35 M.ns).toNat
    · obtain rfl := boolIs_t hf he
      have HF := Go.Lib.hid (show CodeOkN 35 M c from ⟨HC.out, hf⟩)
      have hc0 := hf.1
      have hc8 := code_lt HBT.out.2 hf.2
      clear hf he
      obtain ⟨hlt, x0, x1, x2, x3, x4, hBx⟩ := HX2.out
      have hBk := Nat.le_trans hBw hBx.size
      have HM := Go.Lib.hid (HMA.out.below (hBx.mono hBw))
      have HBX := Go.Lib.hid hBx
      clear hBx
      go_wp2_with fail
      refine (c_codeValues (B := B) 35 c w2 hBk HM.out.ns h60 HBT.out.2 hc0 hc8).mono ?_
      rintro e w3 ⟨v, xs, rfl, hv, hxs, hq⟩
      have HV := Go.Lib.hid (hv.mono HBX.out.size)
      have HXS := Go.Lib.hid hxs
      have HB3 := Go.Lib.hid (HBX.out.trans (hq.mono HBX.out.size))
      clear hv hxs hq x0 x1 x2 x3 x4
      go_wp2_with fail
      go_ret2
      exact ⟨_, _, _, rfl, HV.out, .inl ⟨HF.out, HXS.out, rfl⟩, HB3.out⟩
    · obtain rfl := boolIs_f hf he
      have HF := Go.Lib.hid (show ¬ CodeOkN 35 M c from fun h => hf h.2)
      clear hf he
      go_wp2_with fail
      go_ret2
      exact ⟨_, [], _, rfl, ValRow.nil _ _, .inr ⟨HF.out, rfl, rfl⟩, HX2.out.2.2.2.2.2.2⟩
  · have HF := Go.Lib.hid (show ¬ CodeOkN 35 M c from fun h => hz (hc.inj h.1))
    clear hc
    go_wp2_with fail
    go_ret2
    exact ⟨_, [], _, rfl, ValRow.nil _ _, .inr ⟨HF.out, rfl, rfl⟩, HX1.out.2.2.2.2.2.2⟩

set_option maxHeartbeats 4000000 in
theorem c_InputOfS {B : Nat} {s0 s1 s2 s3 s4 : SL} {M : MD} (c : Int) (w : World) (hBw : B ≤ w.heap.size) (h : ModelAt B w s0 s1 s2 s3 s4 M) :
    Calls Tryz.prog 34 #[.agg (mcells s0 s1 s2 s3 s4).toArray, .int .i64 c] w (OfQ 35 M c w) := by
  have HMA := Go.Lib.hid h
  clear h
  simp only [mcells]
  go_enter Tryz.func34, Tryz.ntmps34
  go_upto_region 1 with fail
  refine code_gen (R := fun wb => Boxed s0 s1 s2 s3 s4 w wb) (Boxed.new _ _ _ _ _ _ _) ?_
  intro w0 hbox
  have HX0 := Go.Lib.hid hbox
  obtain ⟨hlt, x0, x1, x2, x3, x4, hBx⟩ := hbox
  have hBk := Nat.le_trans hBw hBx.size
  have HM0 := Go.Lib.hid (HMA.out.below (hBx.mono hBw))
  clear hBx
  go_wp2_with fail
  refine (c_ModelCodeS (B := B) (s0 := s0) (s1 := s1) (s2 := s2) (s3 := s3) (s4 := s4) w0 hBk HM0.out).mono ?_
  rintro e w1 ⟨cc, rfl, hc, hq⟩
  have HX1 := Go.Lib.hid (HX0.out.below hq)
  clear hq x0 x1 x2 x3 x4 hlt HM0 hBk HX0
  by_cases hz : cc = 0
  · subst hz
    have HC := Go.Lib.hid hc
    have h60 : s0.len ≤ 60 := by have h1 := code0_len hc; rw [HMA.out.ns.1] at h1; exact h1
    have HBT := Go.Lib.hid (code0_bits hc)
    clear hc
    obtain ⟨hlt, x0, x1, x2, x3, x4, hBx⟩ := HX1.out
    have hBk := Nat.le_trans hBw hBx.size
    have HM := Go.Lib.hid (HMA.out.below (hBx.mono hBw))
    clear hBx
    go_wp2_with fail
    refine (c_l2All (B := B) (s0 := s0) (s1 := s1) (s2 := s2) (s3 := s3) (s4 := s4) 35 w1 hBk HM.out h60).mono ?_
    rintro e w2 ⟨rfl, hq⟩
    have HX2 := Go.Lib.hid (HX1.out.below hq)
    obtain ⟨n, hn⟩ : ∃ n, allBits 35 M.ns = n := ⟨_, rfl⟩
    have hn0 : 0 ≤ n := by have := (allBits_range 35 M.ns).1; omega
    have hn8 : n ≤ 8 := by have := HBT.out.2; omega
    rw [hn]
    have HNN := Go.Lib.hid hn
    clear hq x0 x1 x2 x3 x4 hlt HM hBk HX1 hn
    have hp := p2_pos n.toNat
    have hp8 : (2 : Int) ^ n.toNat ≤ 256 := by have := p2_mono (i := n.toNat) (j := 8) (by omega); have e : (2 : Int) ^ 8 = 256 := by decide
                                               omega
    have hw1 : wrap64 (2 ^ n.toNat) = 2 ^ n.toNat := IntWalk.wrap64_in _ (by omega)
    have hmin : min n.toNat 64 = n.toNat := by omega
    go_wp2_with fail
    by_cases hf : 0 ≤ c ∧ c ≤ 2 ^ n.toNat - 1
    · refine (c_l1In_t c 0 (2 ^ n.toNat - 1) hf.1 hf.2 w2).mono ?_
      rintro e w2' ⟨rfl, rfl⟩
      have HF := Go.Lib.hid (show CodeOkN 35 M c from ⟨HC.out, hf.1, by rw [HNN.out]; omega⟩)
      have hc0 := hf.1
      have hc8 : c < 256 := by omega
      obtain ⟨hlt, x0, x1, x2, x3, x4, hBx⟩ := HX2.out
      have hBk := Nat.le_trans hBw hBx.size
      have HM := Go.Lib.hid (HMA.out.below (hBx.mono hBw))
      have HBX := Go.Lib.hid hBx
      clear hBx hf hw1 hmin
      go_upto_region 3 with fail
      refine wp_region_held_drew (S := (fun w' => w'.cell? ⟨w.heap.size, 0, none⟩ = some (.slice s0.a s0.len s0.cap) ∧ w'.cell? ⟨w.heap.size, 1, none⟩ = some (.slice s1.a s1.len s1.cap) ∧ w'.cell? ⟨w.heap.size, 2, none⟩ = some (.slice s2.a s2.len s2.cap) ∧ w'.cell? ⟨w.heap.size, 3, none⟩ = some (.slice s3.a s3.len s3.cap) ∧ w'.cell? ⟨w.heap.size, 4, none⟩ = some (.slice s4.a s4.len s4.cap))) (by kernel_rfl) ?_ (fun hHeld => ?_)
      · exact ⟨keepc (by go_grown) hlt x0, keepc (by go_grown) hlt x1, keepc (by go_grown) hlt x2, keepc (by go_grown) hlt x3, keepc (by go_grown) hlt x4⟩
      refine tL 0 (some 19) ?_
      refine tL 1 (some 20) ?_
      refine tL 3 (some 22) ?_
      refine wpAnyH_ready (rs := [2]) (by kernel_rfl) (by simp) ?_
      refine AllReadyH.cons (o := _) rfl (fun K hK => ?_) AllReadyH.nil
      go_simp
      refine (c_l2Places (B := B) (s0 := s0) (s1 := s1) (s2 := s2) (s3 := s3) (s4 := s4) 35 _ (Nat.le_trans hBk (by first | exact Nat.le_refl _ | go_size)) (HM.out.below (Below.mono (show Below w2.heap.size w2 _ by go_grown) hBk)) h60).mono ?_; rintro e w3 ⟨v, rfl, ho, hq⟩; have hb3 : Below w2.heap.size w2 w3 := bstep (by go_grown) (Nat.le_refl _) hq; obtain ⟨pa, pcap, rfl, -⟩ := own_form ho; have HP := Go.Lib.hid (own_ints ho rfl); clear ho hq
      (try go_wp2_with fail)
      (try clear hHeld)
      refine hK.out _ _ ?_ (fun hHeld => ?_)
      · exact ⟨keepc (by go_grown) hlt x0, keepc (by go_grown) hlt x1, keepc (by go_grown) hlt x2, keepc (by go_grown) hlt x3, keepc (by go_grown) hlt x4⟩
      clear hK K
      (try simp only [Act.put, List.setIfInBounds_toArray, List.set_cons_zero, List.set_cons_succ])
      refine wpAnyH_ready (rs := [4]) (by kernel_rfl) (by simp) ?_
      refine AllReadyH.cons (o := _) rfl (fun K hK => ?_) AllReadyH.nil
      go_simp
      refine (c_l5Unpack (B := w3.heap.size) (s0 := s0) (s1 := s1) (s2 := s2) (s3 := s3) (s4 := s4) 35 c w3 (Nat.le_refl _) ((HM.out.below (hb3.mono hBk)).mono (Nat.le_trans hBk hb3.size)) HP.out rfl h60 HBT.out.2 hc0 hc8).mono ?_; rintro e w4 ⟨v, xs, rfl, hv, hxs, hq⟩; have hb4 : Below w2.heap.size w2 w4 := bstep (by go_grown) (Nat.le_refl _) hq; have HV := Go.Lib.hid (hv.mono hb3.size); have HXS := Go.Lib.hid hxs; clear hq hv hxs
      (try go_wp2_with fail)
      (try clear hHeld)
      refine hK.out _ _ ?_ (fun hHeld => ?_)
      · exact ⟨keepc (by go_grown) hlt x0, keepc (by go_grown) hlt x1, keepc (by go_grown) hlt x2, keepc (by go_grown) hlt x3, keepc (by go_grown) hlt x4⟩
      clear hK K
      (try simp only [Act.put, List.setIfInBounds_toArray, List.set_cons_zero, List.set_cons_succ])
      refine tL 5 (some 4) ?_
      refine tL 6 (some 5) ?_
      refine wpAnyH_done (by kernel_rfl) ?_ _
      clear hHeld
      go_wp2_with fail
      go_ret2
      exact ⟨_, _, _, rfl, HV.out.mono HBX.out.size, .inl ⟨HF.out, HXS.out, rfl⟩, HBX.out.trans (Below.mono (show Below w2.heap.size w2 _ by go_grown) HBX.out.size)⟩
    · refine (c_l1In_f c 0 (2 ^ n.toNat - 1) (by omega) w2).mono ?_
      rintro e w2' ⟨rfl, rfl⟩
      have HF := Go.Lib.hid (show ¬ CodeOkN 35 M c from fun h => hf ⟨h.2.1, by have := h.2.2; rw [HNN.out] at this; omega⟩)
      clear hf hw1 hmin
      go_wp2_with fail
      go_ret2
      exact ⟨_, [], _, rfl, ValRow.nil _ _, .inr ⟨HF.out, rfl, rfl⟩, HX2.out.2.2.2.2.2.2⟩
  · have HF := Go.Lib.hid (show ¬ CodeOkN 35 M c from fun h => hz (hc.inj h.1))
    clear hc
    go_wp2_with fail
    go_ret2
    exact ⟨_, [], _, rfl, ValRow.nil _ _, .inr ⟨HF.out, rfl, rfl⟩, HX1.out.2.2.2.2.2.2⟩
end Go.Proofs.YtdfcjfielkpkiaaGreat
