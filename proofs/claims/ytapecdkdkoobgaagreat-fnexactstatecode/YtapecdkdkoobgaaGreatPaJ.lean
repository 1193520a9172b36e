/-
  Parts: ValP0, ValP.
-/
import Derived.Test.YtapecdkdkoobgaaGreatRows
import Derived.Test.YtapecdkdkoobgaaGreatPaA
import Derived.Test.YtapecdkdkoobgaaGreatNodeM
import Derived.Test.YtapecdkdkoobgaaGreatNames
import Derived.Test.YtapecdkdkoobgaaGreatNodeL
import Derived.Test.YtapecdkdkoobgaaGreatPaG
import Derived.Test.YtapecdkdkoobgaaGreatResP
import Derived.Test.YtapecdkdkoobgaaGreatNSortI
import Derived.Test.YtapecdkdkoobgaaGreatModD
import Derived.Test.YtapecdkdkoobgaaGreatModA
import Derived.Test.YtapecdkdkoobgaaGreatModB
import Derived.Test.YtapecdkdkoobgaaGreatModE
import Derived.Test.YtapecdkdkoobgaaGreatModF
import Derived.Test.YtapecdkdkoobgaaGreatPaF
import Derived.Test.YtapecdkdkoobgaaGreatModQ
import Derived.Test.YtapecdkdkoobgaaGreatModU
import Derived.Test.YtapecdkdkoobgaaGreatModV
import Derived.Test.YtapecdkdkoobgaaGreatModW
import Derived.Test.YtapecdkdkoobgaaGreatLawMC
import Derived.Test.YtapecdkdkoobgaaGreatPaH
import Derived.Test.YtapecdkdkoobgaaGreatPaI
import Derived.WalkKit
import Derived.ProofKit
import Derived.OpenShut
import Derived.WalkSpells
import Derived.WalkLawsBesides
import Derived.Outline
import Derived.BigQuiet
import Derived.Handy
import Derived.LoopTactic
import Derived.Deep.Light
import Derived.Deep.RegionWith
import Derived.Deep.RegionHeld3
import Derived.Deep.DeepCutAuto
import Derived.Lib.Hide
import Derived.Maps.OwnRows
import Derived.Deep.Onto
/-! Values as a number: the mathematics. -/
namespace Go.Proofs.YtapecdkdkoobgaaGreat
open Go.ChangeShapes Go.WideShapes Go.ChangeAt Go.RowKit Go.Maps
set_option linter.unusedVariables false
set_option maxRecDepth 100000


/-- The number of the first cells of a value, the lowest bit first, and its bits. -/
def pk (sw : Int) (zs : List Int) (c a : Int) : Nat → Int × Int
  | 0 => (c, a)
  | j + 1 => ((pk sw zs c a j).1 + zs.getD j 0 * 2 ^ (pk sw zs c a j).2.toNat, (pk sw zs c a j).2 + sw)
/-- .. of the first values. -/
def pks (P : List Int) (ns : List ND) (zss : List (List Int)) : Nat → Int × Int
  | 0 => (0, 0)
  | k + 1 => pk (ns.getD (P.getD k 0).toNat default).sw (zss.getD k []) (pks P ns zss k).1 (pks P ns zss k).2 (zss.getD k []).length
/-- The bits of the first values. -/
def sumB (P : List Int) (ns : List ND) : Nat → Int
  | 0 => 0
  | k + 1 => sumB P ns k + bitsN (ns.getD (P.getD k 0).toNat default).si (ns.getD (P.getD k 0).toNat default).sw
def packN (kind : Int) (ns : List ND) (zss : List (List Int)) : Int := (pks (plcs kind ns ns.length) ns zss zss.length).1
theorem or_pack {c z : Int} {q : Nat} (h0 : 0 ≤ c) (h1 : c < 2 ^ q) (hz : 0 ≤ z) (hc : c < 65536) (hb : z * 2 ^ q < 65536) : bits .or .i64 c (z * 2 ^ q) = c + z * 2 ^ q := by
  have hp := p2_pos q
  have hzp : 0 ≤ z * 2 ^ q := Int.mul_nonneg hz (by omega)
  rw [i64_or _ _ h0 hc hzp hb]
  obtain ⟨C, rfl⟩ : ∃ C : Nat, c = C := ⟨c.toNat, by omega⟩
  obtain ⟨Z, rfl⟩ : ∃ Z : Nat, z = Z := ⟨z.toNat, by omega⟩
  have h1' : C < 2 ^ q := by rw [← p2_cast] at h1; exact Int.ofNat_lt.1 h1
  have e : ((Z : Int) * 2 ^ q).toNat = Z * 2 ^ q := by rw [← p2_cast, ← Int.natCast_mul, Int.toNat_natCast]
  rw [e, Int.toNat_natCast, ← Nat.shiftLeft_eq, Nat.or_comm, ← Nat.shiftLeft_add_eq_or_of_lt h1', Nat.shiftLeft_eq, Int.natCast_add, Int.natCast_mul, p2_cast]
  exact Int.add_comm _ _
theorem pack_step {c p n z : Int} (h0 : 0 ≤ c) (h1 : c < 2 ^ p.toNat) (hp : 0 ≤ p) (hz : WOk n z) : 0 ≤ z * 2 ^ p.toNat ∧ c + z * 2 ^ p.toNat < 2 ^ (p + n).toNat := by
  obtain ⟨a1, a2, a3, a4⟩ := hz
  have hX := p2_pos p.toNat
  have e : (2 : Int) ^ (p + n).toNat = 2 ^ p.toNat * 2 ^ n.toNat := by rw [Int.toNat_add hp (by omega), p2_add]
  have h5 : z * 2 ^ p.toNat ≤ (2 ^ n.toNat - 1) * 2 ^ p.toNat := Int.mul_le_mul_of_nonneg_right (by omega) (by omega)
  rw [Int.sub_mul, Int.one_mul, Int.mul_comm (2 ^ n.toNat)] at h5
  rw [e]
  exact ⟨Int.mul_nonneg a3 (by omega), by omega⟩
theorem pk_ok {sw c a : Int} {zs : List Int} (h0 : 0 ≤ c) (h1 : c < 2 ^ a.toNat) (ha : 0 ≤ a) {j : Nat} (hs : 0 ≤ sw ∨ j = 0) (hj : ∀ i, i < j → WOk sw (zs.getD i 0)) :
    (pk sw zs c a j).2 = a + j * sw ∧ 0 ≤ (pk sw zs c a j).2 ∧ 0 ≤ (pk sw zs c a j).1 ∧ (pk sw zs c a j).1 < 2 ^ (pk sw zs c a j).2.toNat := by
  induction j with
  | zero => simp [pk]; exact ⟨ha, h0, h1⟩
  | succ j ih =>
    have hw := hj j (by omega)
    have hs1 : 0 ≤ sw := by have := hw.1; omega
    obtain ⟨i1, i2, i3, i4⟩ := ih (.inl hs1) (fun i hi => hj i (by omega))
    obtain ⟨p1, p2⟩ := pack_step i3 i4 i2 hw
    simp only [pk]
    generalize (pk sw zs c a j).1 = c' at *
    generalize (pk sw zs c a j).2 = p' at *
    refine ⟨?_, by omega, by omega, p2⟩
    rw [Int.natCast_add, Int.add_mul, i1]
    omega
theorem sumB_le {P : List Int} {ns : List ND} {k m : Nat} (h : k ≤ m) : sumB P ns k ≤ sumB P ns m := by
  induction h with
  | refl => exact Int.le_refl _
  | @step m' _ ih => simp only [sumB]; have := (bitsN_range (ns.getD (P.getD m' 0).toNat default).si (ns.getD (P.getD m' 0).toNat default).sw).1; omega
theorem sumB_app {P : List Int} {x : Int} {ns : List ND} {k : Nat} (h : k ≤ P.length) : sumB (P ++ [x]) ns k = sumB P ns k := by
  induction k with
  | zero => rfl
  | succ k ih =>
    have e : (P ++ [x]).getD k 0 = P.getD k 0 := by simp only [List.getD, List.getElem?_append_left (show k < P.length by omega)]
    simp only [sumB, ih (by omega), e]
theorem sumB_plcs (kind : Int) (ns : List ND) (n : Nat) (h : n ≤ ns.length) : sumB (plcs kind ns n) ns (plcs kind ns n).length = allBits kind (ns.take n) := by
  induction n with
  | zero => simp [plcs, sumB, allBits]
  | succ n ih =>
    have hn : n < ns.length := by omega
    have hg : ns.getD n default = ns[n] := by simp [List.getD, List.getElem?_eq_getElem hn]
    rw [allBits_take kind ns n hn]
    unfold plcs
    split
    · rename_i hk
      rw [hg] at hk
      have e : (plcs kind ns n ++ [(n : Int)]).getD (plcs kind ns n).length 0 = n := by simp [List.getD]
      rw [List.length_append, List.length_singleton]
      simp only [sumB]
      rw [sumB_app (Nat.le_refl _), ih (by omega), e, kb_yes hk, Int.toNat_natCast, hg]
    · rename_i hk
      rw [hg] at hk
      rw [ih (by omega), kb_no hk, Int.add_zero]
theorem pks_ok {P : List Int} {ns : List ND} {zss : List (List Int)} (h : FitsP P ns zss) {k : Nat} (hk : k ≤ zss.length) :
    (pks P ns zss k).2 = sumB P ns k ∧ 0 ≤ (pks P ns zss k).2 ∧ 0 ≤ (pks P ns zss k).1 ∧ (pks P ns zss k).1 < 2 ^ (pks P ns zss k).2.toNat := by
  induction k with
  | zero => simp [pks, sumB]
  | succ k ih =>
    obtain ⟨i1, i2, i3, i4⟩ := ih (by omega)
    have v := h.2 k (by omega)
    have hs : 0 ≤ (ns.getD (P.getD k 0).toNat default).sw ∨ (zss.getD k []).length = 0 := by
      by_cases h0 : (zss.getD k []).length = 0
      · exact .inr h0
      · have := (v.2 0 (by omega)).1; exact .inl (by omega)
    obtain ⟨j1, j2, j3, j4⟩ := pk_ok i3 i4 i2 hs v.2
    refine ⟨?_, j2, j3, j4⟩
    simp only [pks, sumB]
    rw [j1, i1, v.1]
    rfl
/-- What a step of the packing is told. -/
def PkIn (c p n z : Int) : Prop := 0 ≤ c ∧ c < 2 ^ p.toNat ∧ 0 ≤ p ∧ p + n ≤ 8 ∧ WOk n z
theorem pack_at {kind : Int} {ns : List ND} {zss : List (List Int)} (hF : FitsN kind ns zss) (hb : allBits kind ns ≤ 8) {P : List Int} (hP : plcs kind ns ns.length = P) {k j : Nat} (hk : k < zss.length) (hj : j < (zss.getD k []).length) {nd : ND} (hnd : ns.getD (P.getD k 0).toNat default = nd) {z : Int} (hz : (zss.getD k []).getD j 0 = z) :
    PkIn (pk nd.sw (zss.getD k []) (pks P ns zss k).1 (pks P ns zss k).2 j).1 (pk nd.sw (zss.getD k []) (pks P ns zss k).1 (pks P ns zss k).2 j).2 nd.sw z := by
  subst hP; subst hnd; subst hz
  obtain ⟨i1, i2, i3, i4⟩ := pks_ok hF (k := k) (by omega)
  have v := hF.2 k hk
  have hw := v.2 j hj
  have hs : 0 ≤ (ns.getD ((plcs kind ns ns.length).getD k 0).toNat default).sw := by have := hw.1; omega
  obtain ⟨j1, j2, j3, j4⟩ := pk_ok i3 i4 i2 (.inl hs) (j := j) (fun i hi => v.2 i (by omega))
  refine ⟨j3, j4, j2, ?_, hw⟩
  have e1 : sumB (plcs kind ns ns.length) ns (k + 1) ≤ allBits kind ns := by
    have h1 := sumB_plcs kind ns ns.length (Nat.le_refl _)
    rw [List.take_length] at h1
    rw [← h1]
    exact sumB_le (by have := hF.1; omega)
  have e2 : (((j : Int) + 1) * (ns.getD ((plcs kind ns ns.length).getD k 0).toNat default).sw) ≤ ((zss.getD k []).length : Int) * (ns.getD ((plcs kind ns ns.length).getD k 0).toNat default).sw := Int.mul_le_mul_of_nonneg_right (by omega) hs
  rw [Int.add_mul, Int.one_mul] at e2
  simp only [sumB] at e1
  unfold bitsN at e1
  rw [← v.1] at e1
  rw [j1, i1]
  omega
theorem PkIn.small {c p n z : Int} (h : PkIn c p n z) : 0 ≤ z * 2 ^ p.toNat ∧ z * 2 ^ p.toNat < 256 ∧ c < 256 ∧ c + z * 2 ^ p.toNat < 256 ∧ p ≤ 8 ∧ 1 ≤ n ∧ n ≤ 8 ∧ 0 ≤ z := by
  obtain ⟨h0, h1, h2, h3, h4⟩ := h
  obtain ⟨p1, p2⟩ := pack_step h0 h1 h2 h4
  have a := h4.1
  have hm := p2_mono (i := (p + n).toNat) (j := 8) (by omega)
  have e : (2 : Int) ^ 8 = 256 := by decide
  have z0 := h4.2.2.1
  omega
theorem PkIn.or {c p n z : Int} (h : PkIn c p n z) : bits .or .i64 c (z * 2 ^ p.toNat) = c + z * 2 ^ p.toNat := by
  have := h.small
  exact or_pack h.1 h.2.1 (by omega) (by omega) (by omega)
def PackIs (kind : Int) (M : MD) (zss : List (List Int)) (c : Int) (b : Bool) : Prop := (FitM kind M zss ∧ c = packN kind M.ns zss ∧ b = true) ∨ (¬ FitM kind M zss ∧ c = 0 ∧ b = false)
theorem PackIs.inj {kind : Int} {M : MD} {zss : List (List Int)} {a c : Int} {b d : Bool} (h : PackIs kind M zss a b) (k : PackIs kind M zss c d) : a = c ∧ b = d := by
  rcases h with ⟨h1, rfl, rfl⟩ | ⟨h1, rfl, rfl⟩ <;> rcases k with ⟨k1, rfl, rfl⟩ | ⟨k1, rfl, rfl⟩
  · exact ⟨rfl, rfl⟩
  · exact absurd h1 k1
  · exact absurd k1 h1
  · exact ⟨rfl, rfl⟩
theorem code0_bits {M : MD} (h : CodeIs M 0) : allBits 36 M.ns ≤ 8 ∧ allBits 35 M.ns ≤ 8 := by
  cases h
  rename_i h6
  omega

/-- Two cells of the program's packer: the number and its bits. -/
def PKW (b : Nat) (w2 wr : World) (c p : Int) : Prop := wr.heap[b]? = some (.cells #[.int .i64 c] 3 (0, 0)) ∧ wr.heap[b + 1]? = some (.cells #[.int .i64 p] 3 (0, 0)) ∧ (∀ x, b + 1 < x → x < w2.heap.size → wr.heap[x]? = w2.heap[x]?) ∧ Below b w2 wr
theorem PKW.trans {b : Nat} {wa wb wc : World} {c p c' p' : Int} (h : PKW b wa wb c p) (k : PKW b wb wc c' p') : PKW b wa wc c' p' :=
  ⟨k.1, k.2.1, fun x hx hs => (k.2.2.1 x hx (Nat.lt_of_lt_of_le hs h.2.2.2.size)).trans (h.2.2.1 x hx hs), h.2.2.2.trans k.2.2.2⟩

set_option maxHeartbeats 4000000 in
theorem c_bitPacker (w : World) :
    Calls Tryz.prog 91 #[] w fun e w' => e = .returned (.func (.func 119) #[] #[.pointer (some ⟨w.heap.size, 0, none⟩), .pointer (some ⟨w.heap.size + 1, 0, none⟩)]) ∧ w'.heap[w.heap.size]? = some (.cells #[.int .i64 0] 3 (0, 0)) ∧ w'.heap[w.heap.size + 1]? = some (.cells #[.int .i64 0] 3 (0, 0)) ∧ w.heap.size + 1 < w'.heap.size ∧ Below w.heap.size w w' := by
  have hmf : ∀ (fn : Fn) (first cap : Array Value) (w : World), (Instr.makeFunc fn first cap).run Tryz.prog w = .ok (.func fn first cap) w := fun _ _ _ _ => rfl
  go_enter Tryz.func91, Tryz.ntmps91
  go_upto_region 2 with fail
  refine code_gen (R := fun wb => wb.heap[w.heap.size]? = some (.cells #[.int .i64 0] 3 (0, 0)) ∧ wb.heap[w.heap.size + 1]? = some (.cells #[.int .i64 0] 3 (0, 0)) ∧ w.heap.size + 1 < wb.heap.size ∧ Below w.heap.size w wb) ⟨?_, ?_, by simp, by go_grown⟩ ?_
  · first
      | (rw [heap_setCell_other _ _ _ _ (by simp)]; exact one_setCell (v := .int .i64 0) (by rw [(MapKept.heap_alloc _ _).2 _ (alloc_ltS _ _)]; exact (MapKept.heap_alloc _ _).1))
      | (rw [(MapKept.heap_alloc _ _).2 _ (alloc_ltS _ _)]; exact (MapKept.heap_alloc _ _).1)
      | simp
  · first
      | (have e : w.heap.size + 1 = (w.alloc (.cells #[.int .i64 0] 3)).heap.size := by show _ = (w.heap.push _).size; simp
         rw [e]; exact one_setCell (v := .int .i64 0) (by rw [heap_setCell_other _ _ _ _ (by simp)]; exact (MapKept.heap_alloc _ _).1))
      | (have e : w.heap.size + 1 = (w.alloc (.cells #[.int .i64 0] 3)).heap.size := by show _ = (w.heap.push _).size; simp
         rw [e]; exact (MapKept.heap_alloc _ _).1)
      | simp
  rintro w1 ⟨h1, h2, h3, h4⟩
  have H1 := Go.Lib.hid h1
  have H2 := Go.Lib.hid h2
  have H4 := Go.Lib.hid h4
  clear h1 h2 h4
  go_wp2_with fail
  go_ret
  exact ⟨rfl, H1.out, H2.out, h3, H4.out⟩

set_option maxHeartbeats 4000000 in
theorem c_packOne (b : Nat) (c p n z : Int) (w : World) (h1 : w.heap[b]? = some (.cells #[.int .i64 c] 3 (0, 0))) (h2 : w.heap[b + 1]? = some (.cells #[.int .i64 p] 3 (0, 0))) (hk : PkIn c p n z) :
    Calls Tryz.prog 119 #[.int .i64 n, .int .i64 z, .pointer (some ⟨b, 0, none⟩), .pointer (some ⟨b + 1, 0, none⟩)] w fun e w' => e = .returned (.int .i64 (c + z * 2 ^ p.toNat)) ∧ PKW b w w' (c + z * 2 ^ p.toNat) (p + n) := by
  obtain ⟨q0, q1, q2, q3, q4, q5, q6, q7⟩ := hk.small
  have hp0 : 0 ≤ p := hk.2.2.1
  have hpn : ¬ p < 0 := by omega
  have hmin : min p.toNat 64 = p.toNat := by omega
  have hwr : wrap64 (z * 2 ^ p.toNat) = z * 2 ^ p.toNat := IntWalk.wrap64_in _ (by omega)
  have hor := hk.or
  have HK := Go.Lib.hid hk
  have H1 := Go.Lib.hid h1
  have H2 := Go.Lib.hid h2
  have c1 := cell_of_one h1
  have c2 := cell_of_one h2
  have f1 := free_of_one h1
  have f2 := free_of_one h2
  have hs := lt_of_block h2
  clear h1 h2 hk
  go_enter Tryz.func119, Tryz.ntmps119
  go_wp2_with fail
  go_region
  all_goals (try rw [hmin])
  all_goals (try rw [hwr])
  all_goals (try rw [hor])
  all_goals (go_upto_region 2 with fail)
  all_goals (refine code_gen (R := fun wb => PKW b w wb (c + z * 2 ^ p.toNat) p) ⟨one_setCell H1.out, (heap_setCell_other _ _ _ _ (by simp)).trans H2.out, fun x hx _ => heap_setCell_other _ _ _ _ (by simp; omega), by first | exact (Below.refl b w).setCell (by simp) _ | go_grown⟩ ?_)
  all_goals (clear c1 c2 f1 f2; rintro w1 hpk; have c1 := cell_of_one hpk.1; have c2 := cell_of_one hpk.2.1; have f2 := free_of_one hpk.2.1; have HP := Go.Lib.hid hpk; clear hpk)
  all_goals (go_wp2_with fail)
  all_goals go_ret
  all_goals exact ⟨rfl, (heap_setCell_other _ _ _ _ (by simp)).trans HP.out.1, one_setCell HP.out.2.1, fun x hx hs => (heap_setCell_other _ _ _ _ (by simp; omega)).trans (HP.out.2.2.1 x hx hs), HP.out.2.2.2.setCell (by simp) _⟩
end Go.Proofs.YtapecdkdkoobgaaGreat

/-! Values as a number: the program and the model. -/
namespace Go.Proofs.YtapecdkdkoobgaaGreat
open Go.ChangeShapes Go.WideShapes Go.ChangeAt Go.RowKit Go.Maps
set_option linter.unusedVariables false
set_option maxRecDepth 100000


set_option maxHeartbeats 8000000 in
theorem c_l5Pack {B : Nat} {s0 s1 s2 s3 s4 : SL} {M : MD} {pa : Option Addr} {pl pcap : Nat} {P : List Int} {a : Option Addr} {len cap : Nat} {zss : List (List Int)} (kind : Int) (w : World) (hBw : B ≤ w.heap.size) (h : ModelAt B w s0 s1 s2 s3 s4 M) (hp : IntsAt B w pa pl pcap P) (hP : plcs kind M.ns M.ns.length = P) (hv : ValsAt B w a len cap zss) (hF : FitsN kind M.ns zss) (hb : allBits kind M.ns ≤ 8) :
    Calls Tryz.prog 81 #[.agg (mcells s0 s1 s2 s3 s4).toArray, .slice pa pl pcap, .slice a len cap] w fun e w' => e = .returned (.int .i64 (packN kind M.ns zss)) ∧ Below w.heap.size w w' := by
  have HN := Go.Lib.hid h.ns
  have HV := Go.Lib.hid hv
  have HP := Go.Lib.hid hp
  have HF := Go.Lib.hid hF
  have HPP := Go.Lib.hid hP
  have HB := Go.Lib.hid hb
  have HPL := Go.Lib.hid (show ∀ k, k < P.length → 0 ≤ P.getD k 0 ∧ P.getD k 0 < s0.len from fun k hk => by subst hP; have := plcs_at hk; rw [h.ns.1] at this; rw [h.ns.1]; exact this)
  have HL := Go.Lib.hid hv.length
  have hll : len = pl := by have h1 := hv.length; have h2 := hp.1; have h3 := hF.1; rw [hP] at h3; omega
  have HPLL := Go.Lib.hid hp.1
  have hm := hv.le
  have hm0 := Nat.le_trans h.ns.2.1 h.ns.2.2.1
  unfold maxLen at hm hm0
  subst hll
  clear h hv hp hF hP hb
  obtain ⟨a0, l0, p0⟩ := s0
  simp only [mcells] at *
  go_enter Tryz.func81, Tryz.ntmps81
  go_wp2_with fail
  go_loopw [7, 8, 9] (fun cv av i wr => ∃ t : Nat, t ≤ len ∧ i = .int .i64 t ∧ cv = .int .i64 (pks P M.ns zss t).1 ∧ av = .int .i64 (pks P M.ns zss t).2 ∧ Boxed ⟨a0, l0, p0⟩ s1 s2 s3 s4 w wr) (fun _ _ i _ => len - (intOf i).toNat)
  case atStart => exact ⟨0, by omega, rfl, rfl, rfl, Boxed.new _ _ _ _ _ _ _⟩
  case round =>
    obtain ⟨t, ht, rfl, rfl, rfl, hbx⟩ := hrel
    have HX := Go.Lib.hid hbx
    obtain ⟨hlt, g0, -, -, -, -, hBk⟩ := hbx
    have HBk := Go.Lib.hid hBk
    clear hBk
    simp only at g0
    obtain ⟨c0, hc0⟩ : ∃ c, (pks P M.ns zss t).1 = c := ⟨_, rfl⟩
    obtain ⟨e1, he1⟩ : ∃ c, (pks P M.ns zss t).2 = c := ⟨_, rfl⟩
    rw [hc0, he1]
    have HC0 := Go.Lib.hid hc0
    have HE1 := Go.Lib.hid he1
    clear hc0 he1
    by_cases htl : t < len
    · have hti : (t : Int) < len := by omega
      have hBr : B ≤ wr.heap.size := Nat.le_trans hBw HBk.out.size
      obtain ⟨p, b1, o1, hp, -, rfl, hbB1, e0⟩ := int_at (HP.out.below (HBk.out.mono hBw)) htl
      have hpr := HPL.out t (by have := HPLL.out; omega)
      rw [hp] at hpr
      obtain ⟨q, rfl⟩ : ∃ q : Nat, p = q := ⟨p.toNat, by omega⟩
      have hql : (q : Int) < l0 := hpr.2
      obtain ⟨nd, b, off, hnd, rfl, hbB, hc⟩ := kind_at ((HN.out.rows.below (HBk.out.mono hBw)).nodes) (show q < l0 by omega)
      obtain ⟨-, -, -, -, -, -, -, d7, -⟩ := node_cells hc
      obtain ⟨a', l', c', b2, o2, rfl, hbB2, f0, hz⟩ := val_at (HV.out.below (HBk.out.mono hBw)) htl
      obtain ⟨zs, hzs⟩ : ∃ zs, zss.getD t [] = zs := ⟨_, rfl⟩
      rw [hzs] at hz
      have HZS := Go.Lib.hid hzs
      have hzl := hz.1
      have hzm := Nat.le_trans hz.2.1 hz.2.2.1
      unfold maxLen at hzm
      have HZ := Go.Lib.hid hz
      have hbr1 : b1 < wr.heap.size := Nat.lt_of_lt_of_le hbB1 hBr
      have hbr : b < wr.heap.size := Nat.lt_of_lt_of_le hbB hBr
      have hbr2 : b2 < wr.heap.size := Nat.lt_of_lt_of_le hbB2 hBr
      have HND := Go.Lib.hid (show (M.ns.getD (P.getD t 0).toNat default) = nd by rw [hp]; simpa using hnd)
      obtain ⟨k0, pa', pb, pc, n, m, si, sw, nm⟩ := nd
      simp only at d7
      have HPK := Go.Lib.hid (show ∀ j z, j < zs.length → zs.getD j 0 = z → PkIn (pk sw zs c0 e1 j).1 (pk sw zs c0 e1 j).2 sw z from fun j z hj hz => by
        have := pack_at HF.out HB.out HPP.out (k := t) (j := j) (by have := HL.out; omega) (by rw [HZS.out]; exact hj) HND.out (z := z) (by rw [HZS.out]; exact hz)
        rw [HZS.out, HC0.out, HE1.out] at this; exact this)
      have HNX := Go.Lib.hid (show (pks P M.ns zss (t + 1)).1 = (pk sw zs c0 e1 zs.length).1 ∧ (pks P M.ns zss (t + 1)).2 = (pk sw zs c0 e1 zs.length).2 from by
        simp only [pks]; rw [HND.out, HZS.out, HC0.out, HE1.out]; exact ⟨rfl, rfl⟩)
      clear hc hz hnd hp hpr hzs
      have HZL := Go.Lib.hid hzl
      clear hzl
      go_upto_region 6 with fail
      refine wp_region_held_drew (S := (fun w' => w'.cell? ⟨w.heap.size, 0, none⟩ = some (.slice (some ⟨b, off, none⟩) l0 p0) ∧ w'.cell? ⟨b1, o1 + t, none⟩ = some (.int .i64 q) ∧ w'.cell? ⟨b, off + q * 9 + 7, none⟩ = some (.int .i64 sw))) (by kernel_rfl) ?_ (fun hHeld => ?_)
      · exact ⟨keepc (by go_grown) hlt g0, keepc (by go_grown) hbr1 e0, keepc (by go_grown) hbr d7⟩
      refine tL 0 (some 18) ?_
      refine tL 1 (some 19) ?_
      refine tL 2 (some 20) ?_
      refine tL 3 (some 21) ?_
      refine tL 4 (some 22) ?_
      refine tL 5 (some 23) ?_
      refine tL 6 (some 24) ?_
      refine tL 7 (some 25) ?_
      refine tL 8 (some 26) ?_
      refine tL 9 (some 27) ?_
      refine tL 10 (some 10) ?_
      refine wpAnyH_done (by kernel_rfl) ?_ _
      clear hHeld
      go_upto_region 7 with fail
      refine code_gen (R := fun wb => Below wr.heap.size wr wb) (by go_grown) ?_
      intro w3 hb3
      have f3 := keepc hb3 hbr2 f0
      have hb23 := Nat.lt_of_lt_of_le hbr2 hb3.size
      have HX3 := Go.Lib.hid (HX.out.below hb3)
      have HZ3 := Go.Lib.hid (HZ.out.below (hb3.mono hBr))
      have hB3 : B ≤ w3.heap.size := Nat.le_trans hBr hb3.size
      clear hb3 g0 e0 d7 f0 HX HZ HBk hlt hbr hbr1 hbr2 hBr
      go_wp2_with fail
      go_loopw [7, 8, 11] (fun cv av i wr => ∃ j : Nat, j ≤ l' ∧ i = .int .i64 j ∧ cv = .int .i64 (pk sw zs c0 e1 j).1 ∧ av = .int .i64 (pk sw zs c0 e1 j).2 ∧ Below w3.heap.size w3 wr) (fun _ _ i _ => l' - (intOf i).toNat)
      case atStart => exact ⟨0, by omega, rfl, rfl, rfl, Below.refl _ _⟩
      case round =>
        obtain ⟨j, hj, rfl, rfl, rfl, hBj⟩ := hrel
        have HBj := Go.Lib.hid hBj
        have f5 := keepc hBj hb23 f3
        clear hBj
        obtain ⟨cj, hcj⟩ : ∃ c, (pk sw zs c0 e1 j).1 = c := ⟨_, rfl⟩
        obtain ⟨pj, hpj⟩ : ∃ c, (pk sw zs c0 e1 j).2 = c := ⟨_, rfl⟩
        rw [hcj, hpj]
        have HCJ := Go.Lib.hid hcj
        have HPJ := Go.Lib.hid hpj
        clear hcj hpj
        by_cases hjl : j < l'
        · have hji : (j : Int) < l' := by omega
          obtain ⟨z, b3, o3, hz, -, rfl, hbB3, z0⟩ := int_at (HZ3.out.below (HBj.out.mono hB3)) hjl
          have hin : PkIn cj pj sw z := by have := HPK.out j z (by have := HZL.out; omega) hz; rw [HCJ.out, HPJ.out] at this; exact this
          obtain ⟨q0, q1, q2, q3, q4, q5, q6, q7⟩ := hin.small
          have hp0 : 0 ≤ pj := hin.2.2.1
          have hc00 : 0 ≤ cj := hin.1
          have hmin : min pj.toNat 64 = pj.toNat := by omega
          have hwr : wrap64 (z * 2 ^ pj.toNat) = z * 2 ^ pj.toNat := IntWalk.wrap64_in _ (by omega)
          have HST := Go.Lib.hid (show (pk sw zs c0 e1 (j + 1)).1 = cj + z * 2 ^ pj.toNat ∧ (pk sw zs c0 e1 (j + 1)).2 = pj + sw from by simp only [pk]; rw [hz, HCJ.out, HPJ.out]; exact ⟨rfl, rfl⟩)
          clear hz hin
          go_wp2_with fail
          go_roundw
          case rel => exact ⟨j + 1, by omega, by go_num, by rw [HST.out.1], by rw [HST.out.2], HBj.out⟩
          case measure => simp [intOf] <;> omega
        · have hji : ¬ (j : Int) < l' := by omega
          obtain rfl : j = l' := by omega
          go_wp2_with fail
          go_roundw
          case rel => exact ⟨t + 1, by omega, by go_num, by rw [HNX.out.1, HZL.out, HCJ.out], by rw [HNX.out.2, HZL.out, HPJ.out], HX3.out.below HBj.out⟩
          case measure => simp [intOf] <;> omega
    · have hti : ¬ (t : Int) < len := by omega
      obtain rfl : t = len := by omega
      have HPN := Go.Lib.hid (show packN kind M.ns zss = c0 from by unfold packN; rw [HPP.out, HL.out, HC0.out])
      go_wp2_with fail
      go_ret
      exact ⟨by have e := HPN.out; clear HPN; subst e; rfl, HBk.out⟩

set_option maxHeartbeats 8000000 in
theorem c_valuesCode {B : Nat} {a0 : Option Addr} {l0 p0 : Nat} {ns : List ND} {a : Option Addr} {len cap : Nat} {zss : List (List Int)} (kind : Int) (w : World) (hBw : B ≤ w.heap.size) (h : NodesAt B w a0 l0 p0 ns) (h60 : l0 ≤ 60) (hv : ValsAt B w a len cap zss) (hF : FitsN kind ns zss) (hb : allBits kind ns ≤ 8) :
    Calls Tryz.prog 52 #[.slice a0 l0 p0, .int .i64 kind, .slice a len cap] w fun e w' => e = .returned (.int .i64 (packN kind ns zss)) ∧ Below w.heap.size w w' := by
  have HN := Go.Lib.hid h
  have HV := Go.Lib.hid hv
  have HF := Go.Lib.hid hF
  have HB := Go.Lib.hid hb
  have hnl : ns.length = l0 := h.1
  have HL := Go.Lib.hid hv.length
  obtain ⟨P, hP⟩ : ∃ P, plcs kind ns ns.length = P := ⟨_, rfl⟩
  have hll : len = P.length := by have h1 := hv.length; have h3 := hF.1; rw [hP] at h3; omega
  have HPP := Go.Lib.hid hP
  have hp60 : P.length ≤ 60 := by have := plcs_len kind ns ns.length; rw [hP] at this; omega
  have HPL := Go.Lib.hid (show ∀ k, k < P.length → 0 ≤ P.getD k 0 ∧ P.getD k 0 < l0 from fun k hk => by subst hP; have := plcs_at hk; omega)
  subst hll
  clear h hv hF hb hP hnl
  go_enter Tryz.func52, Tryz.ntmps52
  go_wp2_with fail
  refine (c_bitPacker w).mono ?_
  rintro e w1 ⟨rfl, hx1, hx2, hs1, hq1⟩
  have HQ1 := Go.Lib.hid hq1
  have HX1 := Go.Lib.hid hx1
  have HX2 := Go.Lib.hid hx2
  have HN1 := Go.Lib.hid (HN.out.rows.below (hq1.mono hBw)).nodes
  have hB1 : B ≤ w1.heap.size := Nat.le_trans hBw hq1.size
  clear hq1 hx1 hx2
  go_wp2_with fail
  refine (c_kindPlaces (B := B) kind w1 hB1 HN1.out h60).mono ?_
  rintro e w2 ⟨v, rfl, ho, hq⟩
  rw [HPP.out] at ho
  obtain ⟨pa, pcap, rfl, hform⟩ := own_form ho
  have HP := Go.Lib.hid (own_ints ho rfl)
  have HG := Go.Lib.hid (show ∀ b o, pa = some ⟨b, o, none⟩ → w.heap.size + 1 < b from fun b o e => by
    rcases hform with ⟨h1, -, -⟩ | ⟨g, h1, h2, -⟩
    · rw [h1] at e; cases e
    · rw [h1] at e; injection e with e; injection e with e; omega)
  have HQ2 := Go.Lib.hid (HQ1.out.trans (hq.mono HQ1.out.size))
  have HW2 := Go.Lib.hid (show PKW w.heap.size w2 w2 0 0 from ⟨(hq.block _ (by omega)).trans HX1.out, (hq.block _ hs1).trans HX2.out, fun _ _ _ => rfl, Below.refl _ _⟩)
  have HN2 := Go.Lib.hid (HN.out.rows.below (HQ2.out.mono hBw)).nodes
  have HV2 := Go.Lib.hid (HV.out.below (HQ2.out.mono hBw))
  clear ho hform hq HN HN1 HV HX1 HX2 HQ1 hB1 hs1
  go_wp2_with fail
  go_loopw [7, 18] (fun cv i wr => ∃ t : Nat, t ≤ P.length ∧ i = .int .i64 t ∧ cv = .int .i64 (pks P ns zss t).1 ∧ PKW w.heap.size w2 wr (pks P ns zss t).1 (pks P ns zss t).2) (fun _ i _ => P.length - (intOf i).toNat)
  case atStart => exact ⟨0, by omega, rfl, rfl, HW2.out⟩
  case round =>
    obtain ⟨t, ht, rfl, rfl, hbx⟩ := hrel
    obtain ⟨c0, hc0⟩ : ∃ c, (pks P ns zss t).1 = c := ⟨_, rfl⟩
    obtain ⟨e1, he1⟩ : ∃ c, (pks P ns zss t).2 = c := ⟨_, rfl⟩
    rw [hc0, he1] at hbx
    rw [hc0]
    have HW := Go.Lib.hid hbx
    have HC0 := Go.Lib.hid hc0
    have HE1 := Go.Lib.hid he1
    clear hc0 he1 hbx
    by_cases htl : t < P.length
    · have hti : (t : Int) < P.length := by omega
      obtain ⟨p, b1, o1, hp, -, rfl, hbB1, e0⟩ := int_at HP.out htl
      have e2 := (World.cell?_of_block (w := w2) (w' := wr) (a := ⟨b1, o1 + t, none⟩) (HW.out.2.2.1 b1 (HG.out _ _ rfl) hbB1)).trans e0
      have hpr := HPL.out t htl
      rw [hp] at hpr
      obtain ⟨q, rfl⟩ : ∃ q : Nat, p = q := ⟨p.toNat, by omega⟩
      have hql : (q : Int) < l0 := hpr.2
      obtain ⟨nd, b, off, hnd, rfl, hbB, hc⟩ := kind_at HN2.out (show q < l0 by omega)
      obtain ⟨-, -, -, -, -, -, -, d7, -⟩ := node_cells hc
      obtain ⟨a', l', c', b2, o2, rfl, hbB2, f0, hz⟩ := val_at HV2.out htl
      obtain ⟨zs, hzs⟩ : ∃ zs, zss.getD t [] = zs := ⟨_, rfl⟩
      rw [hzs] at hz
      have HZS := Go.Lib.hid hzs
      have HZL := Go.Lib.hid hz.1
      have hzm := Nat.le_trans hz.2.1 hz.2.2.1
      unfold maxLen at hzm
      have HZ := Go.Lib.hid hz
      have f1 := (HW.out.2.2.2.cell (p := ⟨b2, o2 + t, none⟩) (Nat.lt_of_lt_of_le hbB2 hBw)).trans f0
      have HND := Go.Lib.hid (show (ns.getD (P.getD t 0).toNat default) = nd by rw [hp]; simpa using hnd)
      obtain ⟨k0, pa', pb, pc, n, m, si, sw, nm⟩ := nd
      simp only at d7
      have HD7 := Go.Lib.hid d7
      have HPK := Go.Lib.hid (show ∀ j z, j < zs.length → zs.getD j 0 = z → PkIn (pk sw zs c0 e1 j).1 (pk sw zs c0 e1 j).2 sw z from fun j z hj hz => by
        have := pack_at HF.out HB.out HPP.out (k := t) (j := j) (by have := HL.out; omega) (by rw [HZS.out]; exact hj) HND.out (z := z) (by rw [HZS.out]; exact hz)
        rw [HZS.out, HC0.out, HE1.out] at this; exact this)
      have HNX := Go.Lib.hid (show (pks P ns zss (t + 1)).1 = (pk sw zs c0 e1 zs.length).1 ∧ (pks P ns zss (t + 1)).2 = (pk sw zs c0 e1 zs.length).2 from by
        simp only [pks]; rw [HND.out, HZS.out, HC0.out, HE1.out]; exact ⟨rfl, rfl⟩)
      clear hc hz hnd hp hpr hzs d7 e0 f0
      go_wp2_with fail
      go_loopw [7, 29] (fun cv i wr => ∃ j : Nat, j ≤ l' ∧ i = .int .i64 j ∧ cv = .int .i64 (pk sw zs c0 e1 j).1 ∧ PKW w.heap.size w2 wr (pk sw zs c0 e1 j).1 (pk sw zs c0 e1 j).2) (fun _ i _ => l' - (intOf i).toNat)
      case atStart => exact ⟨0, by omega, rfl, rfl, HW.out⟩
      case round =>
        obtain ⟨j, hj, rfl, rfl, hbj⟩ := hrel
        obtain ⟨cj, hcj⟩ : ∃ c, (pk sw zs c0 e1 j).1 = c := ⟨_, rfl⟩
        obtain ⟨pj, hpj⟩ : ∃ c, (pk sw zs c0 e1 j).2 = c := ⟨_, rfl⟩
        rw [hcj, hpj] at hbj
        rw [hcj]
        have HWJ := Go.Lib.hid hbj
        have HCJ := Go.Lib.hid hcj
        have HPJ := Go.Lib.hid hpj
        clear hcj hpj hbj e2 f1
        by_cases hjl : j < l'
        · have hji : (j : Int) < l' := by omega
          obtain ⟨z, b3, o3, hz, -, rfl, hbB3, z0⟩ := int_at HZ.out hjl
          have z1 := (HWJ.out.2.2.2.cell (p := ⟨b3, o3 + j, none⟩) (Nat.lt_of_lt_of_le hbB3 hBw)).trans z0
          have d8 := (HWJ.out.2.2.2.cell (p := ⟨b, off + q * 9 + 7, none⟩) (Nat.lt_of_lt_of_le hbB hBw)).trans HD7.out
          have hin : PkIn cj pj sw z := by have := HPK.out j z (by have := HZL.out; omega) hz; rw [HCJ.out, HPJ.out] at this; exact this
          have HIN := Go.Lib.hid hin
          have HST := Go.Lib.hid (show (pk sw zs c0 e1 (j + 1)).1 = cj + z * 2 ^ pj.toNat ∧ (pk sw zs c0 e1 (j + 1)).2 = pj + sw from by simp only [pk]; rw [hz, HCJ.out, HPJ.out]; exact ⟨rfl, rfl⟩)
          clear hz hin z0
          go_wp2_with (first | (go_at_call 119; refine (c_packOne w.heap.size cj pj sw z _ HWJ.out.1 HWJ.out.2.1 HIN.out).mono ?_; rintro e w5 ⟨rfl, hpk⟩; have HPW := Go.Lib.hid (HWJ.out.trans hpk); clear hpk))
          go_roundw
          case rel => exact ⟨j + 1, by omega, by go_num, by rw [HST.out.1], by rw [HST.out.1, HST.out.2]; exact HPW.out⟩
          case measure => simp [intOf] <;> omega
        · have hji : ¬ (j : Int) < l' := by omega
          obtain rfl : j = l' := by omega
          go_wp2_with fail
          go_roundw
          case rel => exact ⟨t + 1, by omega, by go_num, by rw [HNX.out.1, HZL.out, HCJ.out], by rw [HNX.out.1, HNX.out.2, HZL.out, HCJ.out, HPJ.out]; exact HWJ.out⟩
          case measure => simp [intOf] <;> omega
    · have hti : ¬ (t : Int) < P.length := by omega
      obtain rfl : t = P.length := by omega
      have HPN := Go.Lib.hid (show packN kind ns zss = c0 from by unfold packN; rw [HPP.out, HL.out, HC0.out])
      go_wp2_with fail
      go_ret
      exact ⟨by have e := HPN.out; clear HPN; subst e; rfl, HQ2.out.trans HW.out.2.2.2⟩

def PackQ (kind : Int) (M : MD) (zss : List (List Int)) (w : World) (e : Ending) (w' : World) : Prop := ∃ c b, e = .returned (.tuple #[.int .i64 c, .bool b]) ∧ PackIs kind M zss c b ∧ Below w.heap.size w w'

set_option maxHeartbeats 4000000 in
theorem c_StateCodeI {B : Nat} {s0 s1 s2 s3 s4 : SL} {M : MD} {a : Option Addr} {len cap : Nat} {zss : List (List Int)} (w : World) (hBw : B ≤ w.heap.size) (h : ModelAt B w s0 s1 s2 s3 s4 M) (hv : ValsAt B w a len cap zss) :
    Calls Tryz.prog 14 #[.agg (mcells s0 s1 s2 s3 s4).toArray, .slice a len cap] w (PackQ 36 M zss w) := by
  have HMA := Go.Lib.hid h
  have HV := Go.Lib.hid hv
  clear h hv
  simp only [mcells]
  go_enter Tryz.func14, Tryz.ntmps14
  go_upto_region 1 with fail
  refine code_gen (R := fun wb => Boxed s0 s1 s2 s3 s4 w wb) (Boxed.new _ _ _ _ _ _ _) ?_
  intro w0 hbox
  have HX0 := Go.Lib.hid hbox
  obtain ⟨hlt, x0, x1, x2, x3, x4, hBx⟩ := hbox
  have hBk := Nat.le_trans hBw hBx.size
  have HM0 := Go.Lib.hid (HMA.out.below (hBx.mono hBw))
  have HV0 := Go.Lib.hid (HV.out.below (hBx.mono hBw))
  clear hBx
  go_wp2_with fail
  refine (c_StateFitsI (B := B) (s0 := s0) (s1 := s1) (s2 := s2) (s3 := s3) (s4 := s4) w0 hBk HM0.out HV0.out).mono ?_
  rintro e w1 ⟨he, hq⟩
  have HX1 := Go.Lib.hid (HX0.out.below hq)
  clear hq x0 x1 x2 x3 x4 hlt HM0 HV0 hBk HX0
  by_cases hf : FitM 36 M zss
  · obtain rfl := boolIs_t hf he
    have HFM := Go.Lib.hid hf
    have HBT := Go.Lib.hid (code0_bits hf.1)
    have h60 : s0.len ≤ 60 := by have h1 := code0_len hf.1; rw [HMA.out.ns.1] at h1; exact h1
    clear hf he
    obtain ⟨hlt, x0, x1, x2, x3, x4, hBx⟩ := HX1.out
    have hBk := Nat.le_trans hBw hBx.size
    have HM := Go.Lib.hid (HMA.out.below (hBx.mono hBw))
    have HV1 := Go.Lib.hid (HV.out.below (hBx.mono hBw))
    have HBX := Go.Lib.hid hBx
    clear hBx
    go_wp2_with fail
    refine (c_valuesCode (B := B) 36 w1 hBk HM.out.ns h60 HV1.out HFM.out.2 HBT.out.1).mono ?_
    rintro e w2 ⟨rfl, hq⟩
    have HB2 := Go.Lib.hid (HBX.out.trans (hq.mono HBX.out.size))
    clear hq x0 x1 x2 x3 x4
    go_wp2_with fail
    go_ret2
    exact ⟨_, _, rfl, .inl ⟨HFM.out, rfl, rfl⟩, HB2.out⟩
  · obtain rfl := boolIs_f hf he
    have HFM := Go.Lib.hid hf
    clear hf he
    go_wp2_with fail
    go_ret2
    exact ⟨_, _, rfl, .inr ⟨HFM.out, rfl, rfl⟩, HX1.out.2.2.2.2.2.2⟩

set_option maxHeartbeats 4000000 in
theorem c_StateCodeS {B : Nat} {s0 s1 s2 s3 s4 : SL} {M : MD} {a : Option Addr} {len cap : Nat} {zss : List (List Int)} (w : World) (hBw : B ≤ w.heap.size) (h : ModelAt B w s0 s1 s2 s3 s4 M) (hv : ValsAt B w a len cap zss) :
    Calls Tryz.prog 36 #[.agg (mcells s0 s1 s2 s3 s4).toArray, .slice a len cap] w (PackQ 36 M zss w) := by
  have HMA := Go.Lib.hid h
  have HV := Go.Lib.hid hv
  clear h hv
  simp only [mcells]
  go_enter Tryz.func36, Tryz.ntmps36
  go_upto_region 1 with fail
  refine code_gen (R := fun wb => Boxed s0 s1 s2 s3 s4 w wb) (Boxed.new _ _ _ _ _ _ _) ?_
  intro w0 hbox
  have HX0 := Go.Lib.hid hbox
  obtain ⟨hlt, x0, x1, x2, x3, x4, hBx⟩ := hbox
  have hBk := Nat.le_trans hBw hBx.size
  have HM0 := Go.Lib.hid (HMA.out.below (hBx.mono hBw))
  have HV0 := Go.Lib.hid (HV.out.below (hBx.mono hBw))
  clear hBx
  go_wp2_with fail
  refine (c_StateFitsS (B := B) (s0 := s0) (s1 := s1) (s2 := s2) (s3 := s3) (s4 := s4) w0 hBk HM0.out HV0.out).mono ?_
  rintro e w1 ⟨he, hq⟩
  have HX1 := Go.Lib.hid (HX0.out.below hq)
  clear hq x0 x1 x2 x3 x4 hlt HM0 HV0 hBk HX0
  by_cases hf : FitM 36 M zss
  · obtain rfl := boolIs_t hf he
    have HFM := Go.Lib.hid hf
    have HBT := Go.Lib.hid (code0_bits hf.1)
    have h60 : s0.len ≤ 60 := by have h1 := code0_len hf.1; rw [HMA.out.ns.1] at h1; exact h1
    clear hf he
    obtain ⟨hlt, x0, x1, x2, x3, x4, hBx⟩ := HX1.out
    have hBk := Nat.le_trans hBw hBx.size
    have HM := Go.Lib.hid (HMA.out.below (hBx.mono hBw))
    have HV1 := Go.Lib.hid (HV.out.below (hBx.mono hBw))
    have HBX := Go.Lib.hid hBx
    clear hBx
    go_upto_region 3 with fail
    refine wp_region_held_drew (S := (fun w' => w'.cell? ⟨w.heap.size, 0, none⟩ = some (.slice s0.a s0.len s0.cap) ∧ w'.cell? ⟨w.heap.size, 1, none⟩ = some (.slice s1.a s1.len s1.cap) ∧ w'.cell? ⟨w.heap.size, 2, none⟩ = some (.slice s2.a s2.len s2.cap) ∧ w'.cell? ⟨w.heap.size, 3, none⟩ = some (.slice s3.a s3.len s3.cap) ∧ w'.cell? ⟨w.heap.size, 4, none⟩ = some (.slice s4.a s4.len s4.cap))) (by kernel_rfl) ?_ (fun hHeld => ?_)
    · exact ⟨keepc (by go_grown) hlt x0, keepc (by go_grown) hlt x1, keepc (by go_grown) hlt x2, keepc (by go_grown) hlt x3, keepc (by go_grown) hlt x4⟩
    refine tL 0 (some 10) ?_
    refine tL 1 (some 11) ?_
    refine tL 3 (some 13) ?_
    refine wpAnyH_ready (rs := [2]) (by kernel_rfl) (by simp) ?_
    refine AllReadyH.cons (o := _) rfl (fun K hK => ?_) AllReadyH.nil
    go_simp
    refine (c_l2Places (B := B) (s0 := s0) (s1 := s1) (s2 := s2) (s3 := s3) (s4 := s4) 36 _ (Nat.le_trans hBk (by first | exact Nat.le_refl _ | go_size)) (HM.out.below (Below.mono (show Below w1.heap.size w1 _ by go_grown) hBk)) h60).mono ?_; rintro e w2 ⟨v, rfl, ho, hq⟩; have hb2 : Below w1.heap.size w1 w2 := bstep (by go_grown) (Nat.le_refl _) hq; obtain ⟨pa, pcap, rfl, -⟩ := own_form ho; have HP := Go.Lib.hid (own_ints ho rfl); clear ho hq
    (try go_wp2_with fail)
    (try clear hHeld)
    refine hK.out _ _ ?_ (fun hHeld => ?_)
    · exact ⟨keepc (by go_grown) hlt x0, keepc (by go_grown) hlt x1, keepc (by go_grown) hlt x2, keepc (by go_grown) hlt x3, keepc (by go_grown) hlt x4⟩
    clear hK K
    (try simp only [Act.put, List.setIfInBounds_toArray, List.set_cons_zero, List.set_cons_succ])
    refine wpAnyH_ready (rs := [4]) (by kernel_rfl) (by simp) ?_
    refine AllReadyH.cons (o := _) rfl (fun K hK => ?_) AllReadyH.nil
    go_simp
    refine (c_l5Pack (B := w2.heap.size) (s0 := s0) (s1 := s1) (s2 := s2) (s3 := s3) (s4 := s4) 36 w2 (Nat.le_refl _) ((HM.out.below (hb2.mono hBk)).mono (Nat.le_trans hBk hb2.size)) HP.out rfl ((HV1.out.below (hb2.mono hBk)).mono (Nat.le_trans hBk hb2.size)) HFM.out.2 HBT.out.1).mono ?_; rintro e w3 ⟨rfl, hq⟩; have hb3 : Below w1.heap.size w1 w3 := bstep (by go_grown) (Nat.le_refl _) hq; clear hq
    (try go_wp2_with fail)
    (try clear hHeld)
    refine hK.out _ _ ?_ (fun hHeld => ?_)
    · exact ⟨keepc (by go_grown) hlt x0, keepc (by go_grown) hlt x1, keepc (by go_grown) hlt x2, keepc (by go_grown) hlt x3, keepc (by go_grown) hlt x4⟩
    clear hK K
    (try simp only [Act.put, List.setIfInBounds_toArray, List.set_cons_zero, List.set_cons_succ])
    refine tL 5 (some 4) ?_
    refine tL 6 (some 5) ?_
    refine wpAnyH_done (by kernel_rfl) ?_ _
    clear hHeld
    go_wp2_with fail
    go_ret2
    exact ⟨_, _, rfl, .inl ⟨HFM.out, rfl, rfl⟩, HBX.out.trans (Below.mono (show Below w1.heap.size w1 _ by go_grown) HBX.out.size)⟩
  · obtain rfl := boolIs_f hf he
    have HFM := Go.Lib.hid hf
    clear hf he
    go_wp2_with fail
    go_ret2
    exact ⟨_, _, rfl, .inr ⟨HFM.out, rfl, rfl⟩, HX1.out.2.2.2.2.2.2⟩

set_option maxHeartbeats 4000000 in
theorem c_InputCodeI {B : Nat} {s0 s1 s2 s3 s4 : SL} {M : MD} {a : Option Addr} {len cap : Nat} {zss : List (List Int)} (w : World) (hBw : B ≤ w.heap.size) (h : ModelAt B w s0 s1 s2 s3 s4 M) (hv : ValsAt B w a len cap zss) :
    Calls Tryz.prog 19 #[.agg (mcells s0 s1 s2 s3 s4).toArray, .slice a len cap] w (PackQ 35 M zss w) := by
  have HMA := Go.Lib.hid h
  have HV := Go.Lib.hid hv
  clear h hv
  simp only [mcells]
  go_enter Tryz.func19, Tryz.ntmps19
  go_upto_region 1 with fail
  refine code_gen (R := fun wb => Boxed s0 s1 s2 s3 s4 w wb) (Boxed.new _ _ _ _ _ _ _) ?_
  intro w0 hbox
  have HX0 := Go.Lib.hid hbox
  obtain ⟨hlt, x0, x1, x2, x3, x4, hBx⟩ := hbox
  have hBk := Nat.le_trans hBw hBx.size
  have HM0 := Go.Lib.hid (HMA.out.below (hBx.mono hBw))
  have HV0 := Go.Lib.hid (HV.out.below (hBx.mono hBw))
  clear hBx
  go_wp2_with fail
  refine (c_InputFitsI (B := B) (s0 := s0) (s1 := s1) (s2 := s2) (s3 := s3) (s4 := s4) w0 hBk HM0.out HV0.out).mono ?_
  rintro e w1 ⟨he, hq⟩
  have HX1 := Go.Lib.hid (HX0.out.below hq)
  clear hq x0 x1 x2 x3 x4 hlt HM0 HV0 hBk HX0
  by_cases hf : FitM 35 M zss
  · obtain rfl := boolIs_t hf he
    have HFM := Go.Lib.hid hf
    have HBT := Go.Lib.hid (code0_bits hf.1)
    have h60 : s0.len ≤ 60 := by have h1 := code0_len hf.1; rw [HMA.out.ns.1] at h1; exact h1
    clear hf he
    obtain ⟨hlt, x0, x1, x2, x3, x4, hBx⟩ := HX1.out
    have hBk := Nat.le_trans hBw hBx.size
    have HM := Go.Lib.hid (HMA.out.below (hBx.mono hBw))
    have HV1 := Go.Lib.hid (HV.out.below (hBx.mono hBw))
    have HBX := Go.Lib.hid hBx
    clear hBx
    go_wp2_with fail
    refine (c_valuesCode (B := B) 35 w1 hBk HM.out.ns h60 HV1.out HFM.out.2 HBT.out.2).mono ?_
    rintro e w2 ⟨rfl, hq⟩
    have HB2 := Go.Lib.hid (HBX.out.trans (hq.mono HBX.out.size))
    clear hq x0 x1 x2 x3 x4
    go_wp2_with fail
    go_ret2
    exact ⟨_, _, rfl, .inl ⟨HFM.out, rfl, rfl⟩, HB2.out⟩
  · obtain rfl := boolIs_f hf he
    have HFM := Go.Lib.hid hf
    clear hf he
    go_wp2_with fail
    go_ret2
    exact ⟨_, _, rfl, .inr ⟨HFM.out, rfl, rfl⟩, HX1.out.2.2.2.2.2.2⟩

set_option maxHeartbeats 4000000 in
theorem c_InputCodeS {B : Nat} {s0 s1 s2 s3 s4 : SL} {M : MD} {a : Option Addr} {len cap : Nat} {zss : List (List Int)} (w : World) (hBw : B ≤ w.heap.size) (h : ModelAt B w s0 s1 s2 s3 s4 M) (hv : ValsAt B w a len cap zss) :
    Calls Tryz.prog 40 #[.agg (mcells s0 s1 s2 s3 s4).toArray, .slice a len cap] w (PackQ 35 M zss w) := by
  have HMA := Go.Lib.hid h
  have HV := Go.Lib.hid hv
  clear h hv
  simp only [mcells]
  go_enter Tryz.func40, Tryz.ntmps40
  go_upto_region 1 with fail
  refine code_gen (R := fun wb => Boxed s0 s1 s2 s3 s4 w wb) (Boxed.new _ _ _ _ _ _ _) ?_
  intro w0 hbox
  have HX0 := Go.Lib.hid hbox
  obtain ⟨hlt, x0, x1, x2, x3, x4, hBx⟩ := hbox
  have hBk := Nat.le_trans hBw hBx.size
  have HM0 := Go.Lib.hid (HMA.out.below (hBx.mono hBw))
  have HV0 := Go.Lib.hid (HV.out.below (hBx.mono hBw))
  clear hBx
  go_wp2_with fail
  refine (c_InputFitsS (B := B) (s0 := s0) (s1 := s1) (s2 := s2) (s3 := s3) (s4 := s4) w0 hBk HM0.out HV0.out).mono ?_
  rintro e w1 ⟨he, hq⟩
  have HX1 := Go.Lib.hid (HX0.out.below hq)
  clear hq x0 x1 x2 x3 x4 hlt HM0 HV0 hBk HX0
  by_cases hf : FitM 35 M zss
  · obtain rfl := boolIs_t hf he
    have HFM := Go.Lib.hid hf
    have HBT := Go.Lib.hid (code0_bits hf.1)
    have h60 : s0.len ≤ 60 := by have h1 := code0_len hf.1; rw [HMA.out.ns.1] at h1; exact h1
    clear hf he
    obtain ⟨hlt, x0, x1, x2, x3, x4, hBx⟩ := HX1.out
    have hBk := Nat.le_trans hBw hBx.size
    have HM := Go.Lib.hid (HMA.out.below (hBx.mono hBw))
    have HV1 := Go.Lib.hid (HV.out.below (hBx.mono hBw))
    have HBX := Go.Lib.hid hBx
    clear hBx
    go_upto_region 3 with fail
    refine wp_region_held_drew (S := (fun w' => w'.cell? ⟨w.heap.size, 0, none⟩ = some (.slice s0.a s0.len s0.cap) ∧ w'.cell? ⟨w.heap.size, 1, none⟩ = some (.slice s1.a s1.len s1.cap) ∧ w'.cell? ⟨w.heap.size, 2, none⟩ = some (.slice s2.a s2.len s2.cap) ∧ w'.cell? ⟨w.heap.size, 3, none⟩ = some (.slice s3.a s3.len s3.cap) ∧ w'.cell? ⟨w.heap.size, 4, none⟩ = some (.slice s4.a s4.len s4.cap))) (by kernel_rfl) ?_ (fun hHeld => ?_)
    · exact ⟨keepc (by go_grown) hlt x0, keepc (by go_grown) hlt x1, keepc (by go_grown) hlt x2, keepc (by go_grown) hlt x3, keepc (by go_grown) hlt x4⟩
    refine tL 0 (some 10) ?_
    refine tL 1 (some 11) ?_
    refine tL 3 (some 13) ?_
    refine wpAnyH_ready (rs := [2]) (by kernel_rfl) (by simp) ?_
    refine AllReadyH.cons (o := _) rfl (fun K hK => ?_) AllReadyH.nil
    go_simp
    refine (c_l2Places (B := B) (s0 := s0) (s1 := s1) (s2 := s2) (s3 := s3) (s4 := s4) 35 _ (Nat.le_trans hBk (by first | exact Nat.le_refl _ | go_size)) (HM.out.below (Below.mono (show Below w1.heap.size w1 _ by go_grown) hBk)) h60).mono ?_; rintro e w2 ⟨v, rfl, ho, hq⟩; have hb2 : Below w1.heap.size w1 w2 := bstep (by go_grown) (Nat.le_refl _) hq; obtain ⟨pa, pcap, rfl, -⟩ := own_form ho; have HP := Go.Lib.hid (own_ints ho rfl); clear ho hq
    (try go_wp2_with fail)
    (try clear hHeld)
    refine hK.out _ _ ?_ (fun hHeld => ?_)
    · exact ⟨keepc (by go_grown) hlt x0, keepc (by go_grown) hlt x1, keepc (by go_grown) hlt x2, keepc (by go_grown) hlt x3, keepc (by go_grown) hlt x4⟩
    clear hK K
    (try simp only [Act.put, List.setIfInBounds_toArray, List.set_cons_zero, List.set_cons_succ])
    refine wpAnyH_ready (rs := [4]) (by kernel_rfl) (by simp) ?_
    refine AllReadyH.cons (o := _) rfl (fun K hK => ?_) AllReadyH.nil
    go_simp
    refine (c_l5Pack (B := w2.heap.size) (s0 := s0) (s1 := s1) (s2 := s2) (s3 := s3) (s4 := s4) 35 w2 (Nat.le_refl _) ((HM.out.below (hb2.mono hBk)).mono (Nat.le_trans hBk hb2.size)) HP.out rfl ((HV1.out.below (hb2.mono hBk)).mono (Nat.le_trans hBk hb2.size)) HFM.out.2 HBT.out.2).mono ?_; rintro e w3 ⟨rfl, hq⟩; have hb3 : Below w1.heap.size w1 w3 := bstep (by go_grown) (Nat.le_refl _) hq; clear hq
    (try go_wp2_with fail)
    (try clear hHeld)
    refine hK.out _ _ ?_ (fun hHeld => ?_)
    · exact ⟨keepc (by go_grown) hlt x0, keepc (by go_grown) hlt x1, keepc (by go_grown) hlt x2, keepc (by go_grown) hlt x3, keepc (by go_grown) hlt x4⟩
    clear hK K
    (try simp only [Act.put, List.setIfInBounds_toArray, List.set_cons_zero, List.set_cons_succ])
    refine tL 5 (some 4) ?_
    refine tL 6 (some 5) ?_
    refine wpAnyH_done (by kernel_rfl) ?_ _
    clear hHeld
    go_wp2_with fail
    go_ret2
    exact ⟨_, _, rfl, .inl ⟨HFM.out, rfl, rfl⟩, HBX.out.trans (Below.mono (show Below w1.heap.size w1 _ by go_grown) HBX.out.size)⟩
  · obtain rfl := boolIs_f hf he
    have HFM := Go.Lib.hid hf
    clear hf he
    go_wp2_with fail
    go_ret2
    exact ⟨_, _, rfl, .inr ⟨HFM.out, rfl, rfl⟩, HX1.out.2.2.2.2.2.2⟩
end Go.Proofs.YtapecdkdkoobgaaGreat
