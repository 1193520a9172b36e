/-
  Parts: EvW, EvX, EvZ, EvB, EvH2, EvC, shortened.
-/
import Derived.Test.YtlcgimadbpagfaaGreatZEvR
import Derived.Test.YtlcgimadbpagfaaGreatZPaK
namespace Go.Proofs.YtlcgimadbpagfaaGreat
open Go.Lib
open Go.ChangeShapes Go.WideShapes Go.ChangeAt Go.RowKit Go.Maps
set_option linter.unusedVariables false
set_option maxRecDepth 100000
def bndN : List BD → Int → Int
 | [], _ => -1
 | b :: bs, p => if b.st = p then b.nd else bndN bs p
theorem bnd_cases : ∀ (bs : List BD) (p : Int), (bndN bs p = -1 ∧ ∀ t, t < bs.length → stAt bs t ≠ p) ∨ ∃ i, i < bs.length ∧ (∀ t, t < i → stAt bs t ≠ p) ∧ stAt bs i = p ∧ bndN bs p = (bs.getD i default).nd := by
 intro bs p
 induction bs with
 | nil => exact .inl ⟨rfl, fun t h => by simp at h⟩
 | cons b bs ih =>
  rw [bndN]
  by_cases hb : b.st = p
  ·rw [if_pos hb]; exact .inr ⟨0, by simp, fun t h => by omega, hb, rfl⟩
  ·rw [if_neg hb]
   have hz : ∀ t, (∀ u, u < t → stAt bs u ≠ p) → ∀ u, u < t + 1 → stAt (b :: bs) u ≠ p := fun t h u hu => by
    cases u with
    | zero => exact hb
    | succ u => exact h u (by omega)
   rcases ih with ⟨h1, h2⟩ | ⟨i, h1, h2, h3, h4⟩
   ·exact .inl ⟨h1, fun t ht => hz _ h2 t (by simpa using ht)⟩
   ·exact .inr ⟨i + 1, by simpa using h1, hz _ h2, h3, h4⟩
theorem bnd_hit {bs : List BD} {p : Int} {i : Nat} (hi : i < bs.length) (hno : ∀ t, t < i → stAt bs t ≠ p) (h : stAt bs i = p) : bndN bs p = (bs.getD i default).nd := by
 rcases bnd_cases bs p with ⟨-, h2⟩ | ⟨j, h1, h2, h3, h4⟩
 ·exact absurd h (h2 i hi)
 ·rcases Nat.lt_trichotomy i j with e | e | e
  ·exact absurd h (h2 i e)
  ·rw [e]; exact h4
  ·exact absurd h3 (hno j e)
theorem bnd_miss {bs : List BD} {p : Int} (hno : ∀ t, t < bs.length → stAt bs t ≠ p) : bndN bs p = -1 := by
 rcases bnd_cases bs p with ⟨h1, -⟩ | ⟨j, h1, h2, h3, h4⟩
 ·exact h1
 ·exact absurd h3 (hno j h1)
theorem place_of {kind : Int} {ns : List ND} {p : Int} (h0 : 0 ≤ p) (h1 : p < ns.length) (hk : (ns.getD p.toNat default).kind = kind) : ∃ i, i < (plcs kind ns ns.length).length ∧ (plcs kind ns ns.length).getD i 0 = p := by
 obtain ⟨a, b⟩ := plcs_last (n := ns.length) hk (by omega)
 exact ⟨_, a, by rw [b]; omega⟩
theorem code0_all {M : MD} (h : CodeIs M 0) : ¬ twiceN M ∧ bindsN M := by
 cases h
 rename_i h1 h2 h3 h4 h5 h6
 exact ⟨h3, h4⟩
end Go.Proofs.YtlcgimadbpagfaaGreat
namespace Go.Proofs.YtlcgimadbpagfaaGreat
open Go.Lib
open Go.ChangeShapes Go.WideShapes Go.ChangeAt Go.RowKit Go.Maps
set_option linter.unusedVariables false
set_option maxRecDepth 100000
set_option maxHeartbeats 4000000 in
theorem c_l4Bound {B : Nat} {ba : Option Addr} {bl bc : Nat} {bs : List BD} (p : Int) (w : World) (hBw : B ≤ w.heap.size) (h : BindsAt B w ba bl bc bs) :
  Calls Tryz.prog 58 #[.slice ba bl bc, .int .i64 p] w fun e w' => e = .returned (.int .i64 (bndN bs p)) ∧ w' = w := by
 have HN := hid h
 have hbl : bs.length = bl := h.1
 have HBL := hid hbl
 have hm := Nat.le_trans h.2.1 h.2.2.1
 unfold maxLen at hm
 clear h hbl
 go_enter Tryz.func58, Tryz.ntmps58
 go_wp2_with fail
 go_loopw [5] (fun i wr => ∃ k : Nat, k ≤ bl ∧ i = .int .i64 k ∧ (∀ t, t < k → stAt bs t ≠ p) ∧ wr = w) (fun i _ => bl - (intOf i).toNat)
 case atStart => exact ⟨0, by omega, rfl, fun t h => by omega, rfl⟩
 case round =>
  obtain ⟨k, hk, rfl, hno, rfl⟩ := hrel
  have HNO := hid hno
  clear hno
  by_cases hkl : k < bl
  ·have hki : (k : Int) < bl := by omega
   obtain ⟨bd, b, off, hbd, -, rfl, hbB, c0, c1⟩ := bind_at HN.out hkl
   have HST := hid (show stAt bs k = bd.st by unfold stAt; rw [hbd])
   have HBD := hid hbd
   clear hbd
   cases he : (bd.st == p) with
   | true =>
    have HE := hid (show bndN bs p = bd.nd by rw [bnd_hit (by have := HBL.out; omega) HNO.out (by rw [HST.out]; simpa using he), ← HBD.out])
    go_wp2_with fail
    go_ret
    exact ⟨ret_int HE.out.symm, by first | rfl | trivial⟩
   | false =>
    have HE := hid (show stAt bs k ≠ p by rw [HST.out]; simpa using he)
    go_wp2_with fail
    go_roundw
    case rel => exact ⟨k + 1, by omega, by go_num, fun t ht => by
     rcases Nat.lt_or_ge t k with h | h
     ·exact HNO.out t h
     ·obtain rfl : t = k := by omega
      exact HE.out, by first | rfl | trivial⟩
    case measure => simp [intOf] <;> omega
  ·have hki : ¬ (k : Int) < bl := by omega
   have HE := hid (show bndN bs p = -1 from bnd_miss (fun t ht => HNO.out t (by have := HBL.out; omega)))
   go_wp2_with fail
   go_ret
   exact ⟨ret_int HE.out.symm, by first | rfl | trivial⟩
end Go.Proofs.YtlcgimadbpagfaaGreat
namespace Go.Proofs.YtlcgimadbpagfaaGreat
open Go.Lib
open Go.ChangeShapes Go.WideShapes Go.ChangeAt Go.RowKit Go.Maps
set_option linter.unusedVariables false
set_option maxRecDepth 100000
theorem made_trans {ns : List ND} {i j k : Nat} (h : MadeOf ns i j) (h2 : MadeOf ns j k) : MadeOf ns i k := by
 induction h2 with
 | self => exact h
 | part a t _ ht ih => exact .part a t ih ht
theorem fixed_part {ns : List ND} {i t : Nat} (hf : fixedN ns i) (ht : (t : Int) < pcAt ns i) : fixedN ns (prt ns i t) := fun j hm => hf j (made_trans (.part i t .self ht) hm)
theorem fixed_si {ns : List ND} (hg : nodesGood ns) (i : Nat) : i < ns.length → fixedN ns i → (ns.getD i default).si = 0 := by
 induction i using Nat.strongRecOn with
 | _ i ih =>
  intro hi hf
  obtain ⟨hok, hs⟩ := hg i hi
  have hn := hf i .self
  obtain ⟨x, hx⟩ : ∃ x, ns.getD i default = x := ⟨_, rfl⟩
  rw [hx] at hok hs hn ⊢
  unfold nSort at hs
  rw [if_pos hok] at hs
  obtain ⟨h60, hpc, ⟨p0, p1, p2⟩, -, -, -, hko⟩ := hok
  have hkc := kind_cases hpc
  obtain ⟨t33, t37, t38, t29, t30, t1, t6, t34⟩ := pcn_table hkc
  have part : ∀ t : Nat, (t : Int) < pcN x.kind → ptOk (ns.take i).length x t → (srt (ns.take i) x t).1 = 0 := fun t ht hp => by
   obtain ⟨a1, a2, a3⟩ := srt_part ht hp (by omega)
   rw [a3]
   have ht' : (t : Int) < pcAt ns i := by unfold pcAt; rw [hx]; exact ht
   have hf' := fixed_part hf ht'
   unfold prt at hf'
   rw [hx] at hf'
   exact ih _ a2 (by omega) hf'
  have hnb : namedB x.kind = false := by unfold namedB; simp; omega
  unfold kOk at hko
  unfold kSort at hs
  rw [hnb] at hko hs
  simp only [Bool.false_eq_true, if_false, false_or] at hko hs
  by_cases k34 : x.kind = 34
  ·rw [if_pos k34] at hko; exact hko.1
  rw [if_neg k34] at hs
  have f0 : ∀ {a b : Int × Int}, a = b → b.1 = x.si → a.1 = 0 → x.si = 0 := fun h1 h2 h3 => by rw [← h2, ← h1]; exact h3
  by_cases k33 : x.kind = 33
  ·rw [if_pos k33] at hs
   exact f0 hs rfl (part 1 (by have := t33 k33; omega) p1)
  rw [if_neg k33] at hs
  by_cases k21 : x.kind = 21
  ·rw [if_pos k21] at hs; exact f0 hs rfl rfl
  rw [if_neg k21] at hs
  by_cases k37 : x.kind = 37
  ·rw [if_pos k37] at hs; exact f0 hs rfl rfl
  rw [if_neg k37] at hs
  by_cases k38 : x.kind = 38
  ·rw [if_pos k38] at hs
   exact f0 hs rfl (part 0 (by have := t38 k38; omega) p0)
  rw [if_neg k38] at hs
  exact f0 hs rfl rfl
theorem nodeVal_parts {ns : List ND} {x : ND} {vs vs' : List (List Int)} (hkc : 1 ≤ x.kind ∧ x.kind ≤ 38) (h36 : ¬ x.kind = 36) (h35 : ¬ x.kind = 35) (ha : 1 ≤ pcN x.kind → vs.getD x.a.toNat [] = vs'.getD x.a.toNat []) (hb : 2 ≤ pcN x.kind → vs.getD x.b.toNat [] = vs'.getD x.b.toNat []) (hc : 3 ≤ pcN x.kind → vs.getD x.c.toNat [] = vs'.getD x.c.toNat []) : nodeVal ns x vs = nodeVal ns x vs' := by
 obtain ⟨t33, t37, t38, t29, t30, t1, t6, t34⟩ := pcn_table hkc
 by_cases k34 : x.kind = 34
 ·unfold nodeVal; rw [if_pos k34, if_pos k34]
 by_cases k33 : x.kind = 33
 ·have := t33 k33
  rw [nv33 k33, nv33 k33, ha (by omega), hb (by omega), hc (by omega)]
 by_cases k37 : x.kind = 37
 ·have := t37 k37
  rw [nv37 k37, nv37 k37, ha (by omega), hb (by omega)]
 by_cases k38 : x.kind = 38
 ·have := t38 k38
  rw [nv38 k38, nv38 k38, ha (by omega), hb (by omega), hc (by omega)]
 by_cases k21 : x.kind = 21
 ·have := t6 (by omega)
  rw [nv21 k21, nv21 k21, ha (by omega), hb (by omega)]
 by_cases k29 : x.kind = 29
 ·have := t29 k29
  rw [nv29 k29, nv29 k29, ha (by omega), hb (by omega)]
 by_cases k30 : x.kind = 30
 ·have := t30 (by omega)
  rw [nv30 k30, nv30 k30, ha (by omega)]
 by_cases k31 : x.kind = 31 ∨ x.kind = 32
 ·have := t30 (by omega)
  rw [nv31 k31, nv31 k31, ha (by omega)]
 by_cases k1 : 1 ≤ x.kind ∧ x.kind ≤ 5
 ·have := t1 k1
  rw [nv1 k1, nv1 k1, ha (by omega)]
 ·have := t6 (by omega)
  rw [nv2 (by omega) k21, nv2 (by omega) k21, ha (by omega), hb (by omega)]
theorem fixed_val {ns : List ND} {ss is ss' is' : List (List Int)} (hg : nodesGood ns) (i : Nat) : i < ns.length → fixedN ns i → (evs ns ss is ns.length).getD i [] = (evs ns ss' is' ns.length).getD i [] := by
 induction i using Nat.strongRecOn with
 | _ i ih =>
  intro hi hf
  have hn := hf i .self
  obtain ⟨⟨h60, hpc, ⟨p0, p1, p2⟩, -⟩, -⟩ := hg i hi
  rw [evs_full ns ss is hi, evs_full ns ss' is' hi]
  unfold valAt
  rw [if_neg (fun h => hn (.inl h)), if_neg (fun h => hn (.inl h)), if_neg (fun h => hn (.inr h)), if_neg (fun h => hn (.inr h))]
  have part : ∀ t : Nat, (t : Int) < pcN (ns.getD i default).kind → ptOk (ns.take i).length (ns.getD i default) t → (evs ns ss is i).getD (partAt (ns.getD i default) t).toNat [] = (evs ns ss' is' i).getD (partAt (ns.getD i default) t).toNat [] := fun t ht hp => by
   obtain ⟨a1, a2, a3⟩ := srt_part ht hp (by omega)
   have h := ih _ a2 (by omega) (fixed_part (t := t) hf ht)
   rw [evs_at ns ss is (show (partAt (ns.getD i default) t).toNat < ns.length by omega), evs_at ns ss' is' (show (partAt (ns.getD i default) t).toNat < ns.length by omega)] at h
   rw [evs_at ns ss is a2, evs_at ns ss' is' a2]
   exact h
  exact nodeVal_parts (kind_cases hpc) (fun h => hn (.inl h)) (fun h => hn (.inr h)) (fun h => part 0 (by omega) p0) (fun h => part 1 (by omega) p1) (fun h => part 2 (by omega) p2)
theorem zer_at (P : List Int) (ns : List ND) {k n : Nat} (h : k < n) : (zer P ns n).getD k [] = List.replicate (cellsN (ns.getD (P.getD k 0).toNat default).si (ns.getD (P.getD k 0).toNat default).sw).toNat 0 := by
 induction n with
 | zero => omega
 | succ n ih =>
  by_cases e : k = n
  ·subst e; simp [zer, List.getD, zer_len]
  ·rw [← ih (by omega)]
   simp only [zer, List.getD]
   rw [List.getElem?_append_left (by rw [zer_len]; omega)]
theorem zer_fits (kind : Int) (ns : List ND) : FitsN kind ns (zer (plcs kind ns ns.length) ns (plcs kind ns ns.length).length) := by
 refine ⟨zer_len _ _ _, fun k hk => ?_⟩
 rw [zer_len] at hk
 rw [zer_at _ _ hk]
 obtain ⟨si, hsi⟩ : ∃ si, (ns.getD ((plcs kind ns ns.length).getD k 0).toNat default).si = si := ⟨_, rfl⟩
 obtain ⟨sw, hsw⟩ : ∃ sw, (ns.getD ((plcs kind ns ns.length).getD k 0).toNat default).sw = sw := ⟨_, rfl⟩
 rw [hsi, hsw]
 have hb := cellsN_bound si sw
 refine ⟨by rw [List.length_replicate]; omega, fun j hj => ?_⟩
 rw [List.length_replicate] at hj
 have hz : (List.replicate (cellsN si sw).toNat (0 : Int)).getD j 0 = 0 := by simp [List.getD, hj]
 rw [hz]
 by_cases hs : SOK si sw
 ·exact ⟨hs.2.2.1, hs.2.2.2, by decide, p2_pos _⟩
 ·unfold cellsN at hj; rw [if_neg hs] at hj; simp at hj
def cellsAre (zs : List Int) (z : Int) : Prop := ∀ j, j < zs.length → zs.getD j 0 = z
theorem cells_rep (zs : List Int) (z : Int) : cellsAre zs z ↔ zs = List.replicate zs.length z := by
 constructor
 ·intro h
  apply List.ext_getElem (by simp)
  intro i h1 h2
  have := h i h1
  simp only [List.getD, List.getElem?_eq_getElem h1, Option.getD_some] at this
  simpa using this
 ·intro h j hj
  rw [h]
  simp [List.getD, hj]
def wide (zs : List Int) (n : Nat) : List Int := zs ++ List.replicate (n - zs.length) (zs.getD 0 0)
theorem wide_one {zs : List Int} {n : Nat} (h1 : zs.length = 1) (hn : 1 ≤ n) : wide zs n = List.replicate n (zs.getD 0 0) := by
 obtain ⟨z, rfl⟩ : ∃ z, zs = [z] := by
  cases zs with
  | nil => simp at h1
  | cons z l => exact ⟨z, by cases l with | nil => rfl | cons a b => simp at h1⟩
 unfold wide
 show [z] ++ List.replicate (n - 1) z = _
 obtain ⟨m, rfl⟩ : ∃ m, n = m + 1 := ⟨n - 1, by omega⟩
 simp [List.replicate_succ]
def initsP (bs : List BD) (vs : List (List Int)) : Prop := ∀ t, t < bs.length → cellsAre (vs.getD (stAt bs t).toNat []) ((vs.getD (bs.getD t default).nd.toNat []).getD 0 0)
def initsS (P : List Int) (bs : List BD) (fx ss : List (List Int)) : Prop := ∀ i, i < P.length → 0 ≤ bndN bs (P.getD i 0) → ss.getD i [] = wide (fx.getD (bndN bs (P.getD i 0)).toNat []) (ss.getD i []).length
theorem state_val {ns : List ND} {ss is : List (List Int)} {i : Nat} (hi : i < (plcs 36 ns ns.length).length) : (evs ns ss is ns.length).getD ((plcs 36 ns ns.length).getD i 0).toNat [] = ss.getD i [] := by
 have hm : (plcs 36 ns ns.length).getD i 0 ∈ plcs 36 ns ns.length := by simp [List.getD, hi]
 obtain ⟨h1, h2, h3⟩ := plcs_mem hm
 rw [evs_full ns ss is (by omega)]
 unfold valAt
 rw [if_pos h3, plcs_pos hi]
theorem state_sok {ns : List ND} (hg : nodesGood ns) {i : Nat} (hi : i < ns.length) (h : (ns.getD i default).kind = 36) : SOK (ns.getD i default).si (ns.getD i default).sw := by
 obtain ⟨⟨-, -, -, -, -, -, hko⟩, -⟩ := hg i hi
 unfold kOk at hko
 have hnb : namedB (ns.getD i default).kind = true := by rw [h]; rfl
 rw [if_pos hnb] at hko
 exact hko
theorem init_at {ns : List ND} {ss is : List (List Int)} (hg : nodesGood ns) (hs : FitsN 36 ns ss) (hi : FitsN 35 ns is) {b : BD} (hb : initN ns b) {i : Nat} (hil : i < (plcs 36 ns ns.length).length) (hst : b.st = (plcs 36 ns ns.length).getD i 0) :
  0 ≤ b.nd ∧ b.nd.toNat < ns.length ∧ fixedN ns b.nd.toNat ∧ ((evs ns ss is ns.length).getD b.nd.toNat []).length = 1 ∧ 1 ≤ (ss.getD i []).length := by
 obtain ⟨hb1, hf⟩ := hb
 have base : (0 ≤ b.st ∧ b.st < ns.length) ∧ (0 ≤ b.nd ∧ b.nd < ns.length) ∧ (ns.getD b.st.toNat default).kind = 36 ∧ (ns.getD b.nd.toNat default).sw = (ns.getD b.st.toNat default).sw := by
  rcases hb1 with ⟨h1, h2, h3, h4⟩ | ⟨h1, h2, h3, h4⟩
  ·exact ⟨h1, h2, h3, congrArg Prod.snd h4⟩
  ·exact ⟨h1, h2, h3, (congrArg Prod.snd h4).symm⟩
 obtain ⟨⟨a0, a1⟩, ⟨b0, b1⟩, hk, hsw⟩ := base
 have hnl : b.nd.toNat < ns.length := by omega
 have hsok := state_sok hg (show b.st.toNat < ns.length by omega) hk
 have hsi := fixed_si hg _ hnl hf
 have hv := (evs_fit hg hs hi (Nat.le_refl _) _ hnl).1
 rw [hsi, hsw] at hv
 have h1 : cellsN 0 (ns.getD b.st.toNat default).sw = 1 := by
  unfold cellsN; rw [if_pos ⟨by decide, by decide, hsok.2.2.1, hsok.2.2.2⟩]; rfl
 refine ⟨b0, hnl, hf, by omega, ?_⟩
 have hv2 := hs.2 i (by rw [hs.1]; exact hil)
 rw [← hst] at hv2
 exact (valOk_first hv2 hsok).1
theorem inits_iff {M : MD} {ss is ss0 is0 : List (List Int)} (hg : nodesGood M.ns) (hs : FitsN 36 M.ns ss) (hi : FitsN 35 M.ns is) (hb : ∀ t, t < M.is.length → initN M.ns (M.is.getD t default)) (htw : ¬ againN M.is) :
  initsP M.is (evs M.ns ss is M.ns.length) ↔ initsS (plcs 36 M.ns M.ns.length) M.is (evs M.ns ss0 is0 M.ns.length) ss := by
 constructor
 ·intro h i hil h0
  rcases bnd_cases M.is ((plcs 36 M.ns M.ns.length).getD i 0) with ⟨e, -⟩ | ⟨t, ht, -, hst, hnd⟩
  ·omega
  ·have h1 := h t ht
   obtain ⟨n0, nl, hf, l1, l2⟩ := init_at hg hs hi (hb t ht) hil hst
   rw [hst, state_val hil] at h1
   rw [hnd, ← fixed_val hg _ nl hf (ss := ss) (is := is), wide_one l1 l2]
   exact (cells_rep _ _).1 h1
 ·intro h t ht
  have hst0 : (0 ≤ (M.is.getD t default).st ∧ (M.is.getD t default).st < M.ns.length) ∧ (M.ns.getD (M.is.getD t default).st.toNat default).kind = 36 := by
   rcases (hb t ht).1 with ⟨h1, h2, h3, h4⟩ | ⟨h1, h2, h3, h4⟩
   ·exact ⟨h1, h3⟩
   ·exact ⟨h1, h3⟩
  obtain ⟨i, hil, hp⟩ := place_of hst0.1.1 hst0.1.2 hst0.2
  have hp' : stAt M.is t = (plcs 36 M.ns M.ns.length).getD i 0 := hp.symm
  obtain ⟨n0, nl, hf, l1, l2⟩ := init_at hg hs hi (hb t ht) hil hp'
  have hbn : bndN M.is ((plcs 36 M.ns M.ns.length).getD i 0) = (M.is.getD t default).nd := bnd_hit ht (fun u hu e => htw ⟨t, u, hu, ht, by rw [e, hp']⟩) hp'
  have h1 := h i hil (by rw [hbn]; exact n0)
  rw [hbn, ← fixed_val hg _ nl hf (ss := ss) (is := is), wide_one l1 l2] at h1
  show cellsAre _ _
  rw [hp', state_val hil]
  exact (cells_rep _ _).2 h1
def InitP (M : MD) (ss : List (List Int)) : Prop := FitM 36 M ss ∧ initsP M.is (evs M.ns ss (zer (plcs 35 M.ns M.ns.length) M.ns (plcs 35 M.ns M.ns.length).length) M.ns.length)
end Go.Proofs.YtlcgimadbpagfaaGreat
namespace Go.Proofs.YtlcgimadbpagfaaGreat
open Go.Lib
open Go.ChangeShapes Go.WideShapes Go.ChangeAt Go.RowKit Go.Maps
set_option linter.unusedVariables false
set_option maxRecDepth 100000
set_option maxHeartbeats 4000000 in
theorem c_allCellsAre {B : Nat} {a : Option Addr} {len cap : Nat} {zs : List Int} (z : Int) (w : World) (hBw : B ≤ w.heap.size) (h : IntsAt B w a len cap zs) :
  Calls Tryz.prog 98 #[.agg #[.slice a len cap], .int .i64 z] w fun e w' => BoolIs (cellsAre zs z) e ∧ Below w.heap.size w w' := by
 have HZ := hid h
 have HZL := hid (show zs.length = len from h.1)
 have hm := Nat.le_trans h.2.1 h.2.2.1
 unfold maxLen at hm
 clear h
 go_enter Tryz.func98, Tryz.ntmps98
 go_upto_region 1 with fail
 refine code_gen (R := fun wb => wb.cell? ⟨w.heap.size, 0, none⟩ = some (.slice a len cap) ∧ Below w.heap.size w wb) ⟨by simp, by go_grown⟩ ?_
 rintro w0 ⟨x0, hB0⟩
 have HB0 := hid hB0
 clear hB0
 go_wp2_with fail
 go_loopw [10] (fun i wr => ∃ k : Nat, k ≤ len ∧ i = .int .i64 k ∧ (∀ t, t < k → zs.getD t 0 = z) ∧ Below w.heap.size w wr) (fun i _ => len - (intOf i).toNat)
 case atStart => exact ⟨0, by omega, rfl, fun t h => by omega, HB0.out⟩
 case round =>
  obtain ⟨k, hk, rfl, hno, hB⟩ := hrel
  have HNO := hid hno
  have HB := hid hB
  clear hno hB
  by_cases hkl : k < len
  ·have hki : (k : Int) < len := by omega
   obtain ⟨p, b, off, hp, -, rfl, hbB, c0⟩ := int_at (HZ.out.below (HB.out.mono hBw)) hkl
   have HPP := hid hp
   clear hp
   cases he : (p == z) with
   | true =>
    have HE := hid (show zs.getD k 0 = z by rw [HPP.out]; simpa using he)
    have hz : p = z := by simpa using he
    subst hz
    go_wp2_with fail
    go_roundw
    case rel => exact ⟨k + 1, by omega, by go_num, fun t ht => by
     rcases Nat.lt_or_ge t k with h | h
     ·exact HNO.out t h
     ·obtain rfl : t = k := by omega
      exact HE.out, HB.out⟩
    case measure => simp [intOf] <;> omega
   | false =>
    have HE := hid (show ¬ zs.getD k 0 = z by rw [HPP.out]; simpa using he)
    have hz : ¬ p = z := by simpa using he
    go_wp2_with fail
    go_ret
    exact ⟨BoolIs.no (fun h => HE.out (h k (by have := HZL.out; omega))), HB.out⟩
  ·have hki : ¬ (k : Int) < len := by omega
   go_wp2_with fail
   go_ret
   exact ⟨BoolIs.yes (fun t ht => HNO.out t (by have := HZL.out; omega)), HB.out⟩
set_option maxHeartbeats 4000000 in
theorem c_initWord {B : Nat} {a : Option Addr} {len cap : Nat} {zs : List Int} (w : World) (hBw : B ≤ w.heap.size) (h : IntsAt B w a len cap zs) (h0 : 0 < zs.length) :
  Calls Tryz.prog 99 #[.agg #[.slice a len cap]] w fun e w' => e = .returned (.int .i64 (zs.getD 0 0)) ∧ Below w.heap.size w w' := by
 have h3 : 0 < len := by have := h.1; omega
 have HZ := hid h
 clear h h0
 go_enter Tryz.func99, Tryz.ntmps99
 go_upto_region 1 with fail
 refine code_gen (R := fun wb => wb.cell? ⟨w.heap.size, 0, none⟩ = some (.slice a len cap) ∧ Below w.heap.size w wb) ⟨by simp, by go_grown⟩ ?_
 rintro w0 ⟨x0, hB0⟩
 obtain ⟨z, b, off, hz, -, rfl, hbB, c0⟩ := int_at (HZ.out.below (hB0.mono hBw)) h3
 have HB := hid hB0
 have HZZ := hid hz
 rw [Nat.add_zero] at c0
 clear hB0 hz
 go_wp2_with fail
 go_ret
 exact ⟨ret_int HZZ.out.symm, HB.out⟩
set_option maxHeartbeats 8000000 in
theorem c_initsFit {B : Nat} {ba va : Option Addr} {bl bc vl vc : Nat} {bs : List BD} {vs : List (List Int)} (w : World) (hBw : B ≤ w.heap.size) (hb : BindsAt B w ba bl bc bs) (hv : ValsAt B w va vl vc vs)
  (hin : ∀ t, t < bs.length → (0 ≤ stAt bs t ∧ (stAt bs t).toNat < vl) ∧ (0 ≤ (bs.getD t default).nd ∧ (bs.getD t default).nd.toNat < vl) ∧ 0 < (vs.getD (bs.getD t default).nd.toNat []).length) :
  Calls Tryz.prog 62 #[.slice ba bl bc, .slice va vl vc] w fun e w' => BoolIs (initsP bs vs) e ∧ Below w.heap.size w w' := by
 have HN := hid hb
 have HV := hid hv
 have HIN := hid hin
 have HBL := hid (show bs.length = bl from hb.1)
 have hm := Nat.le_trans hb.2.1 hb.2.2.1
 unfold maxLen at hm
 clear hb hv hin
 go_enter Tryz.func62, Tryz.ntmps62
 go_wp2_with fail
 go_loopw [9] (fun i wr => ∃ k : Nat, k ≤ bl ∧ i = .int .i64 k ∧ (∀ t, t < k → cellsAre (vs.getD (stAt bs t).toNat []) ((vs.getD (bs.getD t default).nd.toNat []).getD 0 0)) ∧ Below w.heap.size w wr) (fun i _ => bl - (intOf i).toNat)
 case atStart => exact ⟨0, by omega, rfl, fun t h => by omega, Below.refl _ _⟩
 case round =>
  obtain ⟨k, hk, rfl, hno, hB⟩ := hrel
  have HNO := hid hno
  have HB := hid hB
  clear hno hB
  by_cases hkl : k < bl
  ·have hki : (k : Int) < bl := by omega
   obtain ⟨⟨st, nd⟩, b, off, hbd, -, rfl, hbB, c0, c1⟩ := bind_at (HN.out.below (HB.out.mono hBw)) hkl
   obtain ⟨⟨p0, p1⟩, ⟨q0, q1⟩, q2⟩ := HIN.out k (by have := HBL.out; omega)
   have HST := hid (show stAt bs k = st by unfold stAt; rw [← hbd])
   have HND := hid (show (bs.getD k default).nd = nd by rw [← hbd])
   rw [HST.out] at p0 p1
   rw [HND.out] at q0 q1 q2
   simp only at c0 c1
   obtain ⟨p, rfl⟩ : ∃ p : Nat, st = p := ⟨st.toNat, by omega⟩
   obtain ⟨q, rfl⟩ : ∃ q : Nat, nd = q := ⟨nd.toNat, by omega⟩
   rw [Int.toNat_natCast] at p1 q1 q2
   clear hbd p0 q0
   have hBr : B ≤ wr.heap.size := Nat.le_trans hBw HB.out.size
   obtain ⟨a1, l1, k1, b1, o1, e1', hb1, d1, hz1⟩ := val_at (HV.out.below (HB.out.mono hBw)) p1
   obtain ⟨a2, l2, k2, b2, o2, rfl, hb2, d2, hz2⟩ := val_at (HV.out.below (HB.out.mono hBw)) q1
   simp only [Option.some.injEq, Addr.mk.injEq, and_true] at e1'
   obtain ⟨rfl, rfl⟩ := e1'
   have HZ1 := hid hz1
   have HZ2 := hid hz2
   have hpi : (p : Int) < vl := by omega
   have hqi : (q : Int) < vl := by omega
   clear hz1 hz2
   go_upto_region 4 with fail
   refine code_gen (R := fun wb => wb.heap[wr.heap.size]? = some (.cells #[.int .i64 p, .int .i64 q] 117 (0, 0)) ∧ Below wr.heap.size wr wb) ⟨by first | exact (MapKept.heap_alloc _ _).1 | exact heap_alloc_new _ _, by go_grown⟩ ?_
   rintro w2 ⟨kb, hq2⟩
   have HB2 := hid (HB.out.trans (hq2.mono HB.out.size))
   have hl2 : wr.heap.size < w2.heap.size := (Array.getElem?_eq_some_iff.1 kb).1
   have e1 := keepc hq2 (show b2 < wr.heap.size by omega) d1
   have e2 := keepc hq2 (show b2 < wr.heap.size by omega) d2
   have HZ1' := hid (HZ1.out.below (hq2.mono hBr))
   have HZ2' := hid (HZ2.out.below (hq2.mono hBr))
   have hB2 : B ≤ w2.heap.size := Nat.le_trans hBr hq2.size
   obtain ⟨g, hg⟩ : ∃ g, wr.heap.size = g := ⟨_, rfl⟩
   rw [hg] at kb hl2 ⊢
   have y0 := cell_of_block (i := 0) kb (v := .int .i64 p) rfl
   have y1 := cell_of_block (i := 1) kb (v := .int .i64 q) rfl
   have hb2' : b2 < w2.heap.size := by have := hq2.size; omega
   clear kb hq2 d1 d2 c0 c1 HZ1 HZ2 hg
   have HCW := hid (c_initWord (B := B) w2.drew hB2 (HZ2'.out.below (Below.refl B w2).drew) q2)
   by_cases heq : cellsAre (vs.getD p []) ((vs.getD q []).getD 0 0)
   ·have HEQ := hid heq
    clear heq
    refine wp_region_held_drew (S := (fun w' => w'.cell? ⟨g, 0, none⟩ = some (.int .i64 p) ∧ w'.cell? ⟨g, 1, none⟩ = some (.int .i64 q) ∧ w'.cell? ⟨b2, o2 + p, none⟩ = some (.slice a1 l1 k1) ∧ w'.cell? ⟨b2, o2 + q, none⟩ = some (.slice a2 l2 k2))) (by kernel_rfl) ?_ (fun hHeld => ?_)
    ·first | exact ⟨y0, y1, e1, e2⟩ | exact ⟨keepc HQ2.out hl2 y0, keepc HQ2.out hl2 y1, keepc HQ2.out hb2' e1, keepc HQ2.out hb2' e2⟩ | exact ⟨keepc HQ.out hl2 y0, keepc HQ.out hl2 y1, keepc HQ.out hb2' e1, keepc HQ.out hb2' e2⟩
    refine tL 0 (some 13) ?_
    refine tL 1 (some 14) ?_
    refine tL 2 (some 15) ?_
    refine tL 3 (some 16) ?_
    refine tL 4 (some 17) ?_
    refine tL 5 (some 18) ?_
    refine tL 6 (some 19) ?_
    refine tL 7 (some 20) ?_
    refine tL 8 (some 21) ?_
    refine tL 9 (some 22) ?_
    refine wpAnyH_ready (rs := [10]) (by kernel_rfl) (by simp) ?_
    refine .cons (o := _) rfl (fun K hK => ?_) .nil
    go_simp
    refine HCW.out.mono ?_
    rintro e w3 ⟨rfl, hq⟩
    have HQ := hid (show Below w2.heap.size w2 w3 from ⟨hq.os, hq.tape, hq.output, hq.size, hq.block⟩)
    clear hq
    (try go_wp2_with fail)
    (try clear hHeld)
    refine hK.out _ _ ?_ (fun hHeld => ?_)
    ·first | exact ⟨y0, y1, e1, e2⟩ | exact ⟨keepc HQ2.out hl2 y0, keepc HQ2.out hl2 y1, keepc HQ2.out hb2' e1, keepc HQ2.out hb2' e2⟩ | exact ⟨keepc HQ.out hl2 y0, keepc HQ.out hl2 y1, keepc HQ.out hb2' e1, keepc HQ.out hb2' e2⟩
    clear hK K
    (try simp only [Act.put, zq1, zq2, zq3])
    refine wpAnyH_ready (rs := [11]) (by kernel_rfl) (by simp) ?_
    refine .cons (o := _) rfl (fun K hK => ?_) .nil
    go_simp
    refine (c_allCellsAre (B := w3.heap.size) _ w3 (Nat.le_refl _) ((HZ1'.out.below (HQ.out.mono hB2)).mono (Nat.le_trans hB2 HQ.out.size))).mono ?_
    rintro e w4 ⟨hb, hq⟩
    have HQ2 := hid (HQ.out.trans (hq.mono HQ.out.size))
    obtain rfl := boolIs_t HEQ.out hb
    clear hb hq
    (try go_wp2_with fail)
    (try clear hHeld)
    refine hK.out _ _ ?_ (fun hHeld => ?_)
    ·first | exact ⟨y0, y1, e1, e2⟩ | exact ⟨keepc HQ2.out hl2 y0, keepc HQ2.out hl2 y1, keepc HQ2.out hb2' e1, keepc HQ2.out hb2' e2⟩ | exact ⟨keepc HQ.out hl2 y0, keepc HQ.out hl2 y1, keepc HQ.out hb2' e1, keepc HQ.out hb2' e2⟩
    clear hK K
    (try simp only [Act.put, zq1, zq2, zq3])
    refine tL 12 (some 25) ?_
    refine wpAnyH_done (by kernel_rfl) ?_ _
    clear hHeld
    have HE := hid (HB2.out.trans (HQ2.out.mono HB2.out.size))
    clear y0 y1 e1 e2
    go_wp2_with fail
    go_roundw
    case rel => exact ⟨k + 1, by omega, by go_num, fun t ht => by
     rcases Nat.lt_or_ge t k with h | h
     ·exact HNO.out t h
     ·obtain rfl : t = k := by omega
      rw [HST.out, HND.out]; exact HEQ.out, HE.out⟩
    case measure => simp [intOf] <;> omega
   ·have HEQ := hid heq
    clear heq
    refine wp_region_held_drew (S := (fun w' => w'.cell? ⟨g, 0, none⟩ = some (.int .i64 p) ∧ w'.cell? ⟨g, 1, none⟩ = some (.int .i64 q) ∧ w'.cell? ⟨b2, o2 + p, none⟩ = some (.slice a1 l1 k1) ∧ w'.cell? ⟨b2, o2 + q, none⟩ = some (.slice a2 l2 k2))) (by kernel_rfl) ?_ (fun hHeld => ?_)
    ·first | exact ⟨y0, y1, e1, e2⟩ | exact ⟨keepc HQ2.out hl2 y0, keepc HQ2.out hl2 y1, keepc HQ2.out hb2' e1, keepc HQ2.out hb2' e2⟩ | exact ⟨keepc HQ.out hl2 y0, keepc HQ.out hl2 y1, keepc HQ.out hb2' e1, keepc HQ.out hb2' e2⟩
    refine tL 0 (some 13) ?_
    refine tL 1 (some 14) ?_
    refine tL 2 (some 15) ?_
    refine tL 3 (some 16) ?_
    refine tL 4 (some 17) ?_
    refine tL 5 (some 18) ?_
    refine tL 6 (some 19) ?_
    refine tL 7 (some 20) ?_
    refine tL 8 (some 21) ?_
    refine tL 9 (some 22) ?_
    refine wpAnyH_ready (rs := [10]) (by kernel_rfl) (by simp) ?_
    refine .cons (o := _) rfl (fun K hK => ?_) .nil
    go_simp
    refine HCW.out.mono ?_
    rintro e w3 ⟨rfl, hq⟩
    have HQ := hid (show Below w2.heap.size w2 w3 from ⟨hq.os, hq.tape, hq.output, hq.size, hq.block⟩)
    clear hq
    (try go_wp2_with fail)
    (try clear hHeld)
    refine hK.out _ _ ?_ (fun hHeld => ?_)
    ·first | exact ⟨y0, y1, e1, e2⟩ | exact ⟨keepc HQ2.out hl2 y0, keepc HQ2.out hl2 y1, keepc HQ2.out hb2' e1, keepc HQ2.out hb2' e2⟩ | exact ⟨keepc HQ.out hl2 y0, keepc HQ.out hl2 y1, keepc HQ.out hb2' e1, keepc HQ.out hb2' e2⟩
    clear hK K
    (try simp only [Act.put, zq1, zq2, zq3])
    refine wpAnyH_ready (rs := [11]) (by kernel_rfl) (by simp) ?_
    refine .cons (o := _) rfl (fun K hK => ?_) .nil
    go_simp
    refine (c_allCellsAre (B := w3.heap.size) _ w3 (Nat.le_refl _) ((HZ1'.out.below (HQ.out.mono hB2)).mono (Nat.le_trans hB2 HQ.out.size))).mono ?_
    rintro e w4 ⟨hb, hq⟩
    have HQ2 := hid (HQ.out.trans (hq.mono HQ.out.size))
    obtain rfl := boolIs_f HEQ.out hb
    clear hb hq
    (try go_wp2_with fail)
    (try clear hHeld)
    refine hK.out _ _ ?_ (fun hHeld => ?_)
    ·first | exact ⟨y0, y1, e1, e2⟩ | exact ⟨keepc HQ2.out hl2 y0, keepc HQ2.out hl2 y1, keepc HQ2.out hb2' e1, keepc HQ2.out hb2' e2⟩ | exact ⟨keepc HQ.out hl2 y0, keepc HQ.out hl2 y1, keepc HQ.out hb2' e1, keepc HQ.out hb2' e2⟩
    clear hK K
    (try simp only [Act.put, zq1, zq2, zq3])
    refine tL 12 (some 25) ?_
    refine wpAnyH_done (by kernel_rfl) ?_ _
    clear hHeld
    have HE := hid (HB2.out.trans (HQ2.out.mono HB2.out.size))
    clear y0 y1 e1 e2
    go_wp2_with fail
    go_ret
    exact ⟨BoolIs.no (fun h => by have h1 := h k (by have := HBL.out; omega); rw [HST.out, HND.out] at h1; exact HEQ.out h1), HE.out⟩
  ·have hki : ¬ (k : Int) < bl := by omega
   go_wp2_with fail
   go_ret
   exact ⟨BoolIs.yes (fun t ht => HNO.out t (by have := HBL.out; omega)), HB.out⟩
theorem init_in {M : MD} {ss is : List (List Int)} (hg : nodesGood M.ns) (hs : FitsN 36 M.ns ss) (hi : FitsN 35 M.ns is) (hb : ∀ t, t < M.is.length → initN M.ns (M.is.getD t default)) : ∀ t, t < M.is.length → (0 ≤ stAt M.is t ∧ (stAt M.is t).toNat < M.ns.length) ∧ (0 ≤ (M.is.getD t default).nd ∧ (M.is.getD t default).nd.toNat < M.ns.length) ∧ 0 < ((evs M.ns ss is M.ns.length).getD (M.is.getD t default).nd.toNat []).length := fun t ht => by
 have hst0 : (0 ≤ (M.is.getD t default).st ∧ (M.is.getD t default).st < M.ns.length) ∧ (M.ns.getD (M.is.getD t default).st.toNat default).kind = 36 := by
  rcases (hb t ht).1 with ⟨h1, h2, h3, h4⟩ | ⟨h1, h2, h3, h4⟩
  ·exact ⟨h1, h3⟩
  ·exact ⟨h1, h3⟩
 obtain ⟨i, hil, hp⟩ := place_of hst0.1.1 hst0.1.2 hst0.2
 obtain ⟨n0, nl, hf, l1, l2⟩ := init_at hg hs hi (hb t ht) hil hp.symm
 exact ⟨⟨hst0.1.1, by show (M.is.getD t default).st.toNat < _; omega⟩, ⟨n0, nl⟩, by omega⟩
set_option maxHeartbeats 16000000 in
theorem c_InitFitsI {B : Nat} {s0 s1 s2 s3 s4 : SL} {M : MD} {sa : Option Addr} {sl sc : Nat} {ss : List (List Int)} (w : World) (hBw : B ≤ w.heap.size) (h : ModelAt B w s0 s1 s2 s3 s4 M) (hs : ValsAt B w sa sl sc ss) :
  Calls Tryz.prog 21 #[.agg (mcells s0 s1 s2 s3 s4).toArray, .slice sa sl sc] w fun e w' => BoolIs (InitP M ss) e ∧ Below w.heap.size w w' := by
 have HMA := hid h
 have HS := hid hs
 clear h hs
 simp only [mcells]
 go_enter Tryz.func21, Tryz.ntmps21
 go_upto_region 1 with fail
 refine code_gen (R := fun wb => Boxed s0 s1 s2 s3 s4 w wb) (Boxed.new _ _ _ _ _ _ _) ?_
 intro w0 hbox
 have HX0 := hid hbox
 obtain ⟨hlt, x0, x1, x2, x3, x4, hBx⟩ := hbox
 have hBk := Nat.le_trans hBw hBx.size
 have HM0 := hid (HMA.out.below (hBx.mono hBw))
 have HS0 := hid (HS.out.below (hBx.mono hBw))
 have HBX := hid hBx
 clear hBx
 go_wp2_with fail
 refine (c_StateFitsI (B := B) (s0 := s0) (s1 := s1) (s2 := s2) (s3 := s3) (s4 := s4) w0 hBk HM0.out HS0.out).mono ?_
 rintro e w1 ⟨hb, hq⟩
 have HQ1 := hid hq
 have hB1 : B ≤ w1.heap.size := Nat.le_trans hBk hq.size
 have hlt1 : w.heap.size < w1.heap.size := Nat.lt_of_lt_of_le hlt hq.size
 by_cases hf : FitM 36 M ss
 rotate_left
 ·obtain rfl := boolIs_f hf hb
  have HF := hid hf
  clear hf hb hq
  go_wp2_with fail
  go_ret
  exact ⟨BoolIs.no (fun h => HF.out h.1), HBX.out.trans (HQ1.out.mono HBX.out.size)⟩
 obtain rfl := boolIs_t hf hb
 have HF := hid hf
 have HC := hid hf.1
 have HF36 := hid hf.2
 have HF35 := hid (zer_fits 35 M.ns)
 have HG := hid (code0_parts hf.1).1
 have HIB := hid (code0_all hf.1).2.1
 have HTW := hid (show ¬ againN M.is from fun h => (code0_all hf.1).1 (.inr (.inl h)))
 have hn0 : M.ns.length = s0.len := HMA.out.ns.1
 have h60 : s0.len ≤ 60 := by have h1 := code0_len hf.1; omega
 have HN0 := hid hn0
 clear hn0
 have HM1 := hid (HM0.out.below (hq.mono hBk))
 have HS1 := hid (HS0.out.below (hq.mono hBk))
 have y0 := keepc hq hlt x0
 have y1 := keepc hq hlt x1
 have y2 := keepc hq hlt x2
 have y3 := keepc hq hlt x3
 have y4 := keepc hq hlt x4
 clear hf hb hq x0 x1 x2 x3 x4
 go_upto_region 3 with fail
 refine wp_region_held_drew (S := (fun w' => w'.cell? ⟨w.heap.size, 0, none⟩ = some (.slice s0.a s0.len s0.cap) ∧ w'.cell? ⟨w.heap.size, 1, none⟩ = some (.slice s1.a s1.len s1.cap) ∧ w'.cell? ⟨w.heap.size, 2, none⟩ = some (.slice s2.a s2.len s2.cap) ∧ w'.cell? ⟨w.heap.size, 3, none⟩ = some (.slice s3.a s3.len s3.cap) ∧ w'.cell? ⟨w.heap.size, 4, none⟩ = some (.slice s4.a s4.len s4.cap))) (by kernel_rfl) ?_ (fun hHeld => ?_)
 ·first | exact ⟨y0, y1, y2, y3, y4⟩ | exact ⟨keepc HQ5.out hlt1 y0, keepc HQ5.out hlt1 y1, keepc HQ5.out hlt1 y2, keepc HQ5.out hlt1 y3, keepc HQ5.out hlt1 y4⟩ | exact ⟨keepc HQ4.out hlt1 y0, keepc HQ4.out hlt1 y1, keepc HQ4.out hlt1 y2, keepc HQ4.out hlt1 y3, keepc HQ4.out hlt1 y4⟩ | exact ⟨keepc HQ3.out hlt1 y0, keepc HQ3.out hlt1 y1, keepc HQ3.out hlt1 y2, keepc HQ3.out hlt1 y3, keepc HQ3.out hlt1 y4⟩
 refine tL 0 (some 9) ?_
 refine tL 1 (some 10) ?_
 refine tL 2 (some 11) ?_
 refine tL 3 (some 12) ?_
 refine tL 4 (some 13) ?_
 refine tL 5 (some 14) ?_
 refine tL 6 (some 15) ?_
 refine wpAnyH_ready (rs := [7]) (by kernel_rfl) (by simp) ?_
 refine .cons (o := _) rfl (fun K hK => ?_) .nil
 go_simp
 refine (c_zeroValues (B := B) 35 w1.drew hB1 (HM1.out.below (Below.refl B w1).drew).ns h60).mono ?_
 rintro e w3 ⟨v, xs, rfl, hv, hx, hq'⟩
 obtain ⟨za, zc, rfl⟩ := hv.len
 have hq : Below w1.heap.size w1 w3 := ⟨hq'.os, hq'.tape, hq'.output, hq'.size, hq'.block⟩
 have HZV := hid (show ValsAt w3.heap.size w3 za xs.length zc (zer (plcs 35 M.ns M.ns.length) M.ns (plcs 35 M.ns M.ns.length).length) from hx ▸ hv.vals rfl)
 have HQ3 := hid hq
 clear hv hx hq hq'
 (try go_wp2_with fail)
 (try clear hHeld)
 refine hK.out _ _ ?_ (fun hHeld => ?_)
 ·first | exact ⟨y0, y1, y2, y3, y4⟩ | exact ⟨keepc HQ5.out hlt1 y0, keepc HQ5.out hlt1 y1, keepc HQ5.out hlt1 y2, keepc HQ5.out hlt1 y3, keepc HQ5.out hlt1 y4⟩ | exact ⟨keepc HQ4.out hlt1 y0, keepc HQ4.out hlt1 y1, keepc HQ4.out hlt1 y2, keepc HQ4.out hlt1 y3, keepc HQ4.out hlt1 y4⟩ | exact ⟨keepc HQ3.out hlt1 y0, keepc HQ3.out hlt1 y1, keepc HQ3.out hlt1 y2, keepc HQ3.out hlt1 y3, keepc HQ3.out hlt1 y4⟩
 clear hK K
 (try simp only [Act.put, zq1, zq2, zq3])
 refine wpAnyH_ready (rs := [8]) (by kernel_rfl) (by simp) ?_
 refine .cons (o := _) rfl (fun K hK => ?_) .nil
 go_simp
 refine (c_reckonAll (B := w3.heap.size) w3 (Nat.le_refl _) ((HM1.out.below (HQ3.out.mono hB1)).mono (Nat.le_trans hB1 HQ3.out.size)).ns ((HS1.out.below (HQ3.out.mono hB1)).mono (Nat.le_trans hB1 HQ3.out.size)) HZV.out h60 HG.out HF36.out HF35.out).mono ?_
 rintro e w4 ⟨v, xs4, rfl, hv, hx, hq⟩
 obtain ⟨va, vc, rfl⟩ := hv.len
 have hxl : xs4.length = s0.len := by have := congrArg List.length hx; rw [evs_len] at this; have := HN0.out; simp at *; omega
 have HVL := hid (show ValsAt w4.heap.size w4 va xs4.length vc (evs M.ns ss (zer (plcs 35 M.ns M.ns.length) M.ns (plcs 35 M.ns M.ns.length).length) M.ns.length) from hx ▸ hv.vals rfl)
 rw [hxl] at HVL ⊢
 have HQ4 := hid (HQ3.out.trans (hq.mono HQ3.out.size))
 clear hv hx hq hxl
 (try go_wp2_with fail)
 (try clear hHeld)
 refine hK.out _ _ ?_ (fun hHeld => ?_)
 ·first | exact ⟨y0, y1, y2, y3, y4⟩ | exact ⟨keepc HQ5.out hlt1 y0, keepc HQ5.out hlt1 y1, keepc HQ5.out hlt1 y2, keepc HQ5.out hlt1 y3, keepc HQ5.out hlt1 y4⟩ | exact ⟨keepc HQ4.out hlt1 y0, keepc HQ4.out hlt1 y1, keepc HQ4.out hlt1 y2, keepc HQ4.out hlt1 y3, keepc HQ4.out hlt1 y4⟩ | exact ⟨keepc HQ3.out hlt1 y0, keepc HQ3.out hlt1 y1, keepc HQ3.out hlt1 y2, keepc HQ3.out hlt1 y3, keepc HQ3.out hlt1 y4⟩
 clear hK K
 (try simp only [Act.put, zq1, zq2, zq3])
 refine wpAnyH_ready (rs := [9]) (by kernel_rfl) (by simp) ?_
 refine .cons (o := _) rfl (fun K hK => ?_) .nil
 go_simp
 refine (c_initsFit (B := w4.heap.size) w4 (Nat.le_refl _) ((HM1.out.is.below (HQ4.out.mono hB1)).mono (Nat.le_trans hB1 HQ4.out.size)) HVL.out (by have := init_in HG.out HF36.out HF35.out HIB.out; rw [HN0.out] at this ⊢; exact this)).mono ?_
 rintro e w5 ⟨⟨r, rfl, hr⟩, hq⟩
 have HR := hid hr
 have HQ5 := hid (HQ4.out.trans (hq.mono HQ4.out.size))
 clear hr hq
 (try go_wp2_with fail)
 (try clear hHeld)
 refine hK.out _ _ ?_ (fun hHeld => ?_)
 ·first | exact ⟨y0, y1, y2, y3, y4⟩ | exact ⟨keepc HQ5.out hlt1 y0, keepc HQ5.out hlt1 y1, keepc HQ5.out hlt1 y2, keepc HQ5.out hlt1 y3, keepc HQ5.out hlt1 y4⟩ | exact ⟨keepc HQ4.out hlt1 y0, keepc HQ4.out hlt1 y1, keepc HQ4.out hlt1 y2, keepc HQ4.out hlt1 y3, keepc HQ4.out hlt1 y4⟩ | exact ⟨keepc HQ3.out hlt1 y0, keepc HQ3.out hlt1 y1, keepc HQ3.out hlt1 y2, keepc HQ3.out hlt1 y3, keepc HQ3.out hlt1 y4⟩
 clear hK K
 (try simp only [Act.put, zq1, zq2, zq3])
 refine tL 10 (some 4) ?_
 refine wpAnyH_done (by kernel_rfl) ?_ _
 clear hHeld
 go_wp2_with fail
 go_ret
 exact ⟨⟨r, rfl, HR.out.trans ⟨fun h => ⟨HF.out, h⟩, fun h => h.2⟩⟩, (HBX.out.trans (HQ1.out.mono HBX.out.size)).trans (HQ5.out.mono (Nat.le_of_lt hlt1))⟩
end Go.Proofs.YtlcgimadbpagfaaGreat
namespace Go.Proofs.YtlcgimadbpagfaaGreat
open Go.Lib
open Go.ChangeShapes Go.WideShapes Go.ChangeAt Go.RowKit Go.Maps
set_option linter.unusedVariables false
set_option maxRecDepth 100000
def lenOf : Option Value → Nat
 | some (.slice _ l _) => l
 | _ => 0
def WdJ (zs : List Int) (n : Nat) (A : Value) (w : World) (b0 h : Nat) (wr : World) : Prop := ∃ (m : Nat) (cv : Value), m ≤ n - zs.length ∧ wr.heap[w.heap.size]? = some (.cells #[A] 69 (0, 0)) ∧ wr.heap[w.heap.size + 1]? = some (.cells #[.slice none 0 0] 69 (0, 0)) ∧ wr.heap[h]? = some (.cells #[cv] 69 (0, 0)) ∧ wr.ownsInts b0 3 .i64 cv (zs ++ List.replicate m (zs.getD 0 0)) ∧ cv.ownBlock ≠ some h ∧ Below w.heap.size w wr
theorem wdj_next {zs : List Int} {n : Nat} {A : Value} {w wi w4 : World} {o : Obj} {cv : Value} {b0 h m g cap k : Nat} {z : Int} (hz : zs.getD 0 0 = z) (hm : m < n - zs.length) (hfz : fits (zs.getD 0 0)) (hb0 : w.heap.size + 2 ≤ b0) (hh : w.heap.size + 2 ≤ h) (hk : k = zs.length + m)
  (h1 : wi.heap[w.heap.size]? = some (.cells #[A] 69 (0, 0))) (h2 : wi.heap[w.heap.size + 1]? = some (.cells #[.slice none 0 0] 69 (0, 0))) (h3 : wi.heap[h]? = some (.cells #[cv] 69 (0, 0))) (ho : wi.ownsInts b0 3 .i64 cv (zs ++ List.replicate m (zs.getD 0 0))) (hne : cv.ownBlock ≠ some h) (hB : Below w.heap.size w wi)
  (hown : w4.ownsRow b0 3 1 (.slice (some ⟨g, 0, none⟩) (k + 1) cap) (k + 1) ((zs ++ List.replicate m (zs.getD 0 0)).map (Value.int .i64) ++ [.int .i64 z])) (hg : (wi.drew.alloc o).grownBy w4 cv.ownBlock) (hat : cv.ownBlock = some g ∨ g = (wi.drew.alloc o).heap.size) :
  WdJ zs n A w b0 h (w4.setCell ⟨h, 0, none⟩ (.slice (some ⟨g, 0, none⟩) (k + 1) cap)) := by
 subst hz
 have hl := (Array.getElem?_eq_some_iff.1 h3).1
 have hlt := alloc_ltS wi.drew o
 have hv : ∀ y, cv.ownBlock = some y → b0 ≤ y := fun y hy => (ho.1.lt y hy).1
 have kp : ∀ y, y < wi.heap.size → cv.ownBlock ≠ some y → w4.heap[y]? = wi.heap[y]? := fun y h1 h2 => (hg.block y (Nat.lt_trans h1 hlt) (fun e => h2 e.symm)).trans (Below.heap_alloc wi.drew _ _ h1)
 have hgh : g ≠ h := fun e => by
  rcases hat with h1 | h1
  ·rw [e] at h1; exact hne h1
  ·have h0 : wi.heap.size < (wi.drew.alloc o).heap.size := hlt
   omega
 refine ⟨m + 1, _, by omega, (heap_setCell_other _ _ _ _ (by show w.heap.size ≠ h; omega)).trans ((kp _ (by omega) (fun e => by have := hv _ e; omega)).trans h1), (heap_setCell_other _ _ _ _ (by show w.heap.size + 1 ≠ h; omega)).trans ((kp _ (by omega) (fun e => by have := hv _ e; omega)).trans h2), one_setCell ((kp _ hl hne).trans h3), ?_, ?_, ?_⟩
 ·have hll : (zs ++ List.replicate m (zs.getD 0 0)).length = k := by rw [List.length_append, List.length_replicate]; omega
  have h5 : w4.ownsInts b0 3 .i64 (.slice (some ⟨g, 0, none⟩) (k + 1) cap) ((zs ++ List.replicate m (zs.getD 0 0)) ++ [zs.getD 0 0]) := ho.appended (by rw [hll]; exact hown) hfz
  have h6 : zs ++ List.replicate (m + 1) (zs.getD 0 0) = (zs ++ List.replicate m (zs.getD 0 0)) ++ [zs.getD 0 0] := by rw [List.append_assoc, List.replicate_succ']
  rw [h6]
  exact own_block h5 (fun x _ _ h7 => heap_setCell_other _ _ _ _ (by
   show x ≠ h
   have : g = x := by simpa [Value.ownBlock] using h7
   omega))
 ·simpa [Value.ownBlock] using hgh
 ·have hb2 : Below w.heap.size w (wi.drew.alloc o) := Below.alloc hB.drew hB.size _
  have hw4 : Below w.heap.size w w4 := hb2.grown hg (by have := hB.size; have h0 : wi.heap.size < (wi.drew.alloc o).heap.size := hlt; omega) (fun x hx' => by have := hv x hx'; omega)
  exact hw4.setCell (by show w.heap.size ≤ h; omega) _
set_option maxHeartbeats 8000000 in
theorem c_l4Wide {B : Nat} {a : Option Addr} {len cap : Nat} {zs : List Int} (n : Nat) (w : World) (hBw : B ≤ w.heap.size) (h : IntsAt B w a len cap zs) (h0 : 0 < zs.length) (h4 : zs.length ≤ 1048576) (hn : n ≤ 1048576) :
  Calls Tryz.prog 60 #[.agg #[.slice a len cap], .int .i64 n] w (ValP (wide zs n) w) := by
 have HZA := hid h
 have hzl : zs.length = len := h.1
 have HZ0 := hid (show fits (zs.getD 0 0) from h.2.2.2.1 _ (by cases zs with | nil => simp at h0 | cons x l => simp))
 clear h
 obtain ⟨i1, hi1, hz01, hz11, hz21⟩ := info_parts intInfo
 have HI1 := hid hi1
 have HZ01 := hid hz01
 have HZ11 := hid hz11
 have HZ21 := hid hz21
 clear hi1 hz01 hz11 hz21
 subst hzl
 go_enter Tryz.func60, Tryz.ntmps60
 go_upto_region 1 with fail
 refine code_gen (R := fun wb => wb.heap[w.heap.size]? = some (.cells #[.slice a zs.length cap] 69 (0, 0)) ∧ wb.heap[w.heap.size + 1]? = some (.cells #[.slice none 0 0] 69 (0, 0)) ∧ Below w.heap.size w wb) ⟨by
  rw [(MapKept.heap_alloc _ _).2 _ (alloc_ltS _ _)]; exact (MapKept.heap_alloc _ _).1, by
  have e : w.heap.size + 1 = (w.alloc (.cells #[.slice a zs.length cap] 69)).heap.size := by show _ = (w.heap.push _).size; simp
  rw [e]; exact (MapKept.heap_alloc _ _).1, by go_grown⟩ ?_
 rintro w0 ⟨k1, k2, hb⟩
 have HK1 := hid k1
 have HK2 := hid k2
 have HB0 := hid hb
 have hl0 : w.heap.size + 1 < w0.heap.size := (Array.getElem?_eq_some_iff.1 k2).1
 have y0 := cell_of_block (i := 0) k1 (v := .slice a zs.length cap) rfl
 clear k1 k2 hb
 go_wp2_with fail
 refine (c_l4Copy (B := B) w0 (Nat.le_trans hBw HB0.out.size) (HZA.out.below (HB0.out.mono hBw)) h4).mono ?_
 rintro e w1 ⟨x, rfl, hown, hq⟩
 have HOW := hid hown
 have HK1' := hid ((hq.block _ (by omega)).trans HK1.out)
 have HK2' := hid ((hq.block _ hl0).trans HK2.out)
 have HB1 := hid (HB0.out.trans (hq.mono HB0.out.size))
 have hs1 := hq.size
 obtain ⟨ca, cc, rfl, -⟩ := own_form hown
 have hxb := fun y hy => (hown.1.lt y hy)
 have HXB := hid hxb
 clear hq hown y0 HK1 HK2 HB0 hxb
 go_upto_region 2 with fail
 refine code_gen (R := fun wb => wb.heap[w1.heap.size]? = some (.cells #[.slice ca zs.length cc] 69 (0, 0)) ∧ Below w1.heap.size w1 wb) ⟨by first | exact (MapKept.heap_alloc _ _).1 | exact heap_alloc_new _ _, by go_grown⟩ ?_
 rintro w2 ⟨k3, hq⟩
 have HJ := hid (show WdJ zs n (.slice a zs.length cap) w w0.heap.size w1.heap.size w2 from ⟨0, _, Nat.zero_le _, (hq.block _ (by omega)).trans HK1'.out, (hq.block _ (by omega)).trans HK2'.out, k3, by simpa using own_block HOW.out (fun g _ hl _ => hq.block g hl), fun e => by have := (HXB.out _ e).2; omega, HB1.out.trans (hq.mono HB1.out.size)⟩)
 obtain ⟨hh, hhe⟩ : ∃ hh, w1.heap.size = hh := ⟨_, rfl⟩
 rw [hhe] at HJ ⊢
 have hh2 : w.heap.size + 2 ≤ hh := by omega
 have hs2 : w0.heap.size ≤ hh := by omega
 have hb02 : w.heap.size + 2 ≤ w0.heap.size := by omega
 clear k3 hq hhe HK1' HK2' HB1 HOW HXB
 go_wp2_with fail
 go_loopw [] (fun wr => WdJ zs n (.slice a zs.length cap) w w0.heap.size hh wr) (fun wr => n - lenOf (wr.cell? ⟨hh, 0, none⟩))
 case atStart => exact HJ.out
 case round =>
  obtain ⟨m, cv, hm, k1, k2, k3, hown, hne, hB⟩ := hrel
  have HK1 := hid k1
  have HK2 := hid k2
  have HK3 := hid k3
  have HOW := hid hown
  have HBJ := hid hB
  have HNE := hid hne
  have hlh : hh < wr.heap.size := (Array.getElem?_eq_some_iff.1 k3).1
  obtain ⟨ca2, cc2, rfl, -⟩ := own_form hown
  have hll : (zs ++ List.replicate m (zs.getD 0 0)).length = zs.length + m := by rw [List.length_append, List.length_replicate]
  rw [hll] at HOW HK3 HNE
  have y0 := cell_of_block (i := 0) k1 (v := .slice a zs.length cap) rfl
  have v0 := cell_of_block (i := 0) HK3.out (v := .slice ca2 (zs.length + m) cc2) rfl
  have f0 := free_of_block (i := 0) HK3.out
  clear k1 k2 k3 hown hne hB HJ
  by_cases hlt : zs.length + m < n
  ·have hlti : ((zs.length + m : Nat) : Int) < n := by omega
   obtain ⟨z, b3, o3, hz, -, rfl, hbB3, z0⟩ := int_at (HZA.out.below (HBJ.out.mono hBw)) (show 0 < zs.length from h0)
   rw [Nat.add_zero] at z0
   have HZZ := hid hz
   have HOJ := hid (show wr.ownsRow w0.heap.size 3 1 (.slice ca2 (zs.length + m) cc2) (zs.length + m) ((zs ++ List.replicate m (zs.getD 0 0)).map (Value.int .i64)) from by have h1 := HOW.out.1; rw [hll] at h1; exact h1)
   have hzi : (0 : Int) < (zs.length : Int) := by omega
   clear hz hll
   have kpc : ∀ (w4 : World) (oo : Obj), (wr.drew.alloc oo).grownBy w4 (Value.ownBlock (.slice ca2 (zs.length + m) cc2)) → w4.heap[hh]? = wr.heap[hh]? := fun w4 oo hg => (hg.block hh (Nat.lt_trans hlh (alloc_ltS wr.drew oo)) (fun e => HNE.out e.symm)).trans (Below.heap_alloc wr.drew _ _ hlh)
   have HKP := hid kpc
   clear kpc
   go_upto_region 3 with fail
   go_region_law (first | (refine step_append_lies _ rfl (.tmp 14) (.tmp 19) 24 rfl w0.heap.size 3 i1 (.int .i64 0) 1 8 Tryz.underlying24 HI1.out HZ01.out HZ11.out HZ21.out rfl (by decide) (.slice ca2 (zs.length + m) cc2) (zs.length + m) _ (by simp [Act.eval]) (HOJ.out.drew.alloc _) ⟨wr.heap.size, 0, none⟩ 1 1 [.int .i64 z] (by simp [Act.eval]) rfl (cell_one_new wr.drew _ _) (ints_oneCell .i64 [z]) (by decide) (by unfold maxLen; omega) (by omega) (by have := HBJ.out.size; simp; omega) _ rfl ?_; intro g cap' w4 hown' hgrow' hat hlt4; have v4 := (World.cell?_of_block (w := wr) (w' := w4) (a := ⟨hh, 0, none⟩) (HKP.out _ _ hgrow')).trans v0; have f4 := (World.frozen?_of_block (w := wr) (w' := w4) (a := ⟨hh, 0, none⟩) (HKP.out _ _ hgrow')).trans f0))
   all_goals
    have HQ := hid (wdj_next (n := n) (m := m) HZZ.out (by omega) HZ0.out hb02 hh2 rfl HK1.out HK2.out HK3.out HOW.out HNE.out HBJ.out hown' hgrow' hat)
    have HL1 := hid (show lenOf ((w4.setCell ⟨hh, 0, none⟩ (.slice (some ⟨g, 0, none⟩) (zs.length + m + 1) cap')).cell? ⟨hh, 0, none⟩) = zs.length + m + 1 by rw [World.cell?_setCell_same _ _ _ v4]; rfl)
    have HL0 := hid (show lenOf (wr.cell? ⟨hh, 0, none⟩) = zs.length + m by rw [v0]; rfl)
    clear hown' hgrow' hat hlt4 v4 f4 y0 v0 f0 z0
    go_wp2_with fail
    go_roundw
    case rel => exact HQ.out
    case measure => rw [HL0.out, HL1.out]; omega
  ·have hlti : ¬ ((zs.length + m : Nat) : Int) < n := by omega
   have HW := hid (show zs ++ List.replicate m (zs.getD 0 0) = wide zs n by unfold wide; rw [show m = n - zs.length by omega])
   have x0 := cell_of_block (i := 0) HK2.out (v := .slice none 0 0) rfl
   have g0 := free_of_block (i := 0) HK2.out
   clear hll
   go_wp2_with fail
   have HE := hid (HBJ.out.setCell (p := ⟨w.heap.size + 1, 0, none⟩) (Nat.le_succ _) (.slice ca2 (zs.length + m) cc2))
   exact bodyPost_ret (v := .agg _) (results_cell_row rfl _ _ (w.heap.size + 1) 69 _ (0, 0) _ rfl (heap_setCell_same _ _ 0 _ _ (.slice ca2 (zs.length + m) cc2) HK2.out) Tryz.underlying69 rfl (by kernel_rfl)) rfl
    ⟨_, rfl, by rw [← HW.out]; exact own_block (World.ownsInts.mono' HOW.out (by omega)) (fun x _ _ h3 => heap_setCell_other _ _ _ _ (by have := (HOW.out.1.lt x h3).1; show x ≠ w.heap.size + 1; omega)), HE.out⟩
theorem fx_push {b0 : Nat} {w3 w5 : World} {o : Obj} {s s' iv x : Value} {zs : List Int} {xs ys : List (Value × List Int)} (hs : ValRow b0 w3 s xs) (hi : ValRow b0 w3 iv ys) (hd : ∀ y, ValBlk s xs y → ¬ ValBlk iv ys y) (hx : w3.ownsInts b0 3 .i64 x zs) (hf : ∀ g, x.ownBlock = some g → ¬ ValBlk s xs g ∧ ¬ ValBlk iv ys g)
  (hown : w5.ownsRow b0 69 1 s' (xs.length + 1) (xs.map Prod.fst ++ [x])) (hg : (w3.alloc o).grownBy w5 s.ownBlock) (hat : s'.ownBlock = s.ownBlock ∨ s'.ownBlock = some (w3.alloc o).heap.size) :
  ValRow b0 w5 s' (xs ++ [(x, zs)]) ∧ ValRow b0 w5 iv ys ∧ ∀ y, ValBlk s' (xs ++ [(x, zs)]) y → ¬ ValBlk iv ys y := by
 have hlt := alloc_ltS w3 o
 refine ⟨hs.push hx (fun g h => (hf g h).1) hown hg hat, hi.kept (fun y h1 h2 h3 => (hg.block y (Nat.lt_trans h2 hlt) (fun e => hd y (.inl e.symm) h3)).trans (Below.heap_alloc _ _ _ h2)), fun y hy hb => ?_⟩
 have hyb := (hi.blk hb).2
 rcases hy with hy | ⟨p, hp, hy⟩
 ·rcases hat with h | h
  ·rw [h] at hy; exact hd y (.inl hy) hb
  ·rw [h] at hy; simp only [Option.some.injEq] at hy; omega
 ·rcases List.mem_append.1 hp with hp | hp
  ·exact hd y (.inr ⟨p, hp, hy⟩) hb
  ·simp only [List.mem_singleton] at hp
   subst hp
   exact (hf y hy).2 hb
theorem zer_next {kind : Int} {ns : List ND} {k : Nat} (hk : k < ns.length) (h : (ns.getD k default).kind = kind) : zer (plcs kind ns ns.length) ns (plcs kind ns (k + 1)).length = zer (plcs kind ns ns.length) ns (plcs kind ns k).length ++ [List.replicate (cellsN (ns.getD k default).si (ns.getD k default).sw).toNat 0] := by
 have e : (plcs kind ns (k + 1)).length = (plcs kind ns k).length + 1 := by rw [plcs, if_pos h, List.length_append]; rfl
 rw [e, zer, (plcs_last h hk).2, Int.toNat_natCast]
theorem zer_skip {kind : Int} {ns : List ND} {k : Nat} (h : ¬ (ns.getD k default).kind = kind) : (plcs kind ns (k + 1)).length = (plcs kind ns k).length := by rw [plcs, if_neg h]
def FxR (ns : List ND) (s0 s1 s2 s3 s4 : SL) (w : World) (s iv i : Value) (wr : World) : Prop := ∃ (k : Nat) (xs ys : List (Value × List Int)), k ≤ ns.length ∧ i = .int .i64 k ∧ ValRow (w.heap.size + 1) wr s xs ∧ xs.map Prod.snd = zer (plcs 36 ns ns.length) ns (plcs 36 ns k).length ∧ ValRow (w.heap.size + 1) wr iv ys ∧ ys.map Prod.snd = zer (plcs 35 ns ns.length) ns (plcs 35 ns k).length ∧ (∀ y, ValBlk s xs y → ¬ ValBlk iv ys y) ∧ Boxed s0 s1 s2 s3 s4 w wr
set_option maxHeartbeats 16000000 in
theorem c_l4Fixed {B : Nat} {s0 s1 s2 s3 s4 : SL} {M : MD} (w : World) (hBw : B ≤ w.heap.size) (h : ModelAt B w s0 s1 s2 s3 s4 M) (h60 : s0.len ≤ 60) (hg : nodesGood M.ns) :
  Calls Tryz.prog 56 #[.agg (mcells s0 s1 s2 s3 s4).toArray] w (AllP M.ns (zer (plcs 36 M.ns M.ns.length) M.ns (plcs 36 M.ns M.ns.length).length) (zer (plcs 35 M.ns M.ns.length) M.ns (plcs 35 M.ns M.ns.length).length) w) := by
 have HMA := hid h
 have HG := hid hg
 have hnl : M.ns.length = s0.len := h.ns.1
 have HNL := hid hnl
 clear h hg hnl
 obtain ⟨i1, hi1, hz01, hz11, hz21⟩ := info_parts intInfo
 obtain ⟨i2, hi2, hz02, hz12, hz22⟩ := info_parts valueInfo
 have HI1 := hid hi1
 have HI2 := hid hi2
 have HZ01 := hid hz01
 have HZ02 := hid hz02
 have HZ11 := hid hz11
 have HZ12 := hid hz12
 have HZ21 := hid hz21
 have HZ22 := hid hz22
 clear hi1 hi2 hz01 hz02 hz11 hz12 hz21 hz22
 simp only [mcells]
 go_enter Tryz.func56, Tryz.ntmps56
 go_upto_region 1 with fail
 refine code_gen (R := fun wb => Boxed s0 s1 s2 s3 s4 w wb) (Boxed.new _ _ _ _ _ _ _) ?_
 intro w0 hbox
 have HX0 := hid hbox
 clear hbox
 go_wp2_with fail
 go_loopw [3, 4, 5] (fun s iv i wr => FxR M.ns s0 s1 s2 s3 s4 w s iv i wr) (fun _ _ i _ => s0.len - (intOf i).toNat)
 case atStart => exact ⟨0, [], [], by omega, rfl, ValRow.nil _ _, rfl, ValRow.nil _ _, rfl, fun y hy => by rcases hy with hy | ⟨p, hp, -⟩; cases hy; simp at hp, HX0.out⟩
 case round =>
  obtain ⟨k, xs, ys, hk, rfl, hs, hxs, hi, hys, hd, hX⟩ := hrel
  have HS := hid hs
  have HXS := hid hxs
  have HI := hid hi
  have HYS := hid hys
  have HD := hid hd
  have HX := hid hX
  have hpl6 := plcs_len 36 M.ns k
  have hpl5 := plcs_len 35 M.ns k
  have hxl : xs.length = (plcs 36 M.ns k).length := by have := congrArg List.length hxs; rw [zer_len] at this; simpa using this
  have hyl : ys.length = (plcs 35 M.ns k).length := by have := congrArg List.length hys; rw [zer_len] at this; simpa using this
  have hx60 : xs.length ≤ 60 := by have := HNL.out; omega
  have hy60 : ys.length ≤ 60 := by have := HNL.out; omega
  obtain ⟨hltr, x0, x1, x2, x3, x4, hBx⟩ := hX
  have hBr : B ≤ wr.heap.size := Nat.le_trans hBw hBx.size
  have HBX := hid hBx
  clear hs hxs hi hys hd hBx hpl6 hpl5 hxl hyl HX0
  by_cases hkl : k < s0.len
  ·have hki : (k : Int) < s0.len := by omega
   have hkn : k < M.ns.length := by have := HNL.out; omega
   obtain ⟨nd, b, off, hnd, hsl, hbB, hc⟩ := kind_at (HMA.out.below (HBX.out.mono hBw)).ns hkl
   obtain ⟨d0, -, -, -, -, -, d6, d7, -⟩ := node_cells hc
   have HND := hid hnd
   obtain ⟨kd, pa, pb, pc, n, m, si, sw, nm⟩ := nd
   simp only at d0 d6 d7
   have hcb := cellsN_bound si sw
   obtain ⟨cn, hcn⟩ : ∃ cn : Nat, cellsN si sw = cn := ⟨(cellsN si sw).toNat, by omega⟩
   have HCN := hid hcn
   have hcn8 : cn ≤ 4 := by omega
   have HKD := hid (show (M.ns.getD k default).kind = kd by rw [HND.out])
   have HRP := hid (show List.replicate (cellsN (M.ns.getD k default).si (M.ns.getD k default).sw).toNat (0 : Int) = List.replicate cn 0 by rw [HND.out]; simp only; rw [HCN.out]; rfl)
   have hbw : b < wr.heap.size := by omega
   obtain ⟨a0, l0, c0⟩ := s0
   simp only at hsl hkl hki h60 x0 HNL
   subst hsl
   clear hc hnd hcb hcn
   go_wp2_with fail
   refine (c_SortCellsS si sw wr).mono ?_
   rintro e w2 ⟨he, hq⟩
   rw [HCN.out] at he
   subst he
   have HQ2 := hid hq
   have hs2 := hq.size
   obtain ⟨w3, hrun, hown, hgrow⟩ := run_make_full (P := Tryz.prog) w2 (w.heap.size + 1) 24 3 i1 _ 1 Tryz.underlying24 HI1.out HZ01.out HZ11.out .i64 .i64 cn (by rw [HZ21.out]; omega) (by unfold maxLen; omega) (by omega)
   have HQ3 := hid (hq.trans ((Below.refl w2.heap.size w2).grown hgrow (Nat.le_refl _) (by simp) |>.mono hs2))
   have HOW := hid (own_made hown)
   have hs3 : w2.heap.size ≤ w3.heap.size := hgrow.size
   have hgz3 : w2.heap.size < w3.heap.size := by
    rcases hown.2 with ⟨h', _⟩ | ⟨g', cap', cur, h', _, hg', _⟩
    ·simp at h'
    ·simp only [Value.slice.injEq, Option.some.injEq, Addr.mk.injEq, and_true, true_and] at h'
     obtain ⟨rfl, rfl⟩ := h'
     exact (Array.getElem?_eq_some_iff.1 hg').1
   clear hq hown hgrow
   go_upto_region 7 with fail
   clear hrun
   refine code_gen (R := fun wb => wb.heap[w3.heap.size]? = some (.cells #[.slice (some ⟨w2.heap.size, 0, none⟩) cn cn] 69 (0, 0)) ∧ Below w3.heap.size w3 wb) ⟨by first | exact (MapKept.heap_alloc _ _).1 | exact heap_alloc_new _ _, by go_grown⟩ ?_
   rintro w4 ⟨kv, hb4⟩
   have HQ4 := hid (HQ3.out.trans (hb4.mono (by omega)))
   have HO4 := hid (ownI_below HOW.out hb4)
   have HS4 := hid (HS.out.below HQ4.out)
   have HI4 := hid (HI.out.below HQ4.out)
   have HX4 := hid (HX.out.below HQ4.out)
   have HFR := hid (show ∀ g, Value.ownBlock (.slice (some ⟨w2.heap.size, 0, none⟩) cn cn) = some g → ¬ ValBlk _ xs g ∧ ¬ ValBlk _ ys g from fun g hg => by
    have e : w2.heap.size = g := by simpa [Value.ownBlock] using hg
    exact ⟨HS.out.fresh (by omega), HI.out.fresh (by omega)⟩)
   have hw4 : w.heap.size + 1 ≤ w4.heap.size := by have := hb4.size; omega
   have z0 := keepc HQ4.out hltr x0
   have e0 := keepc HQ4.out hbw d0
   have hlv : w3.heap.size < w4.heap.size := (Array.getElem?_eq_some_iff.1 kv).1
   obtain ⟨gz, hgz⟩ : ∃ g, w2.heap.size = g := ⟨_, rfl⟩
   obtain ⟨hv, hhv⟩ : ∃ g, w3.heap.size = g := ⟨_, rfl⟩
   rw [hgz] at HO4 HFR kv
   rw [hhv] at kv hlv
   have v0 := cell_of_block (i := 0) kv (v := .slice (some ⟨gz, 0, none⟩) cn cn) rfl
   clear kv hb4 x0 x1 x2 x3 x4 d0 d6 d7 HQ3 HOW hs2 hs3 hgz3 HQ2
   rw [hgz, hhv]
   clear hgz hhv
   by_cases h36 : kd = 36
   ·have q1 : (kd == 36) = true := by simpa using h36
    have q2 : (kd == 35) = false := by simp; omega
    have HK6 := hid h36
    clear h36
    go_wp2_with (first | (at_builtin; refine wpList_append_own_at _ rfl _ _ 30 rfl (w.heap.size + 1) 69 i2 _ 1 24 Tryz.underlying30 HI2.out HZ02.out HZ12.out HZ22.out rfl (by decide) _ _ _ rfl (HS4.out.row.alloc _) ⟨w4.heap.size, 0, none⟩ 1 1 [.slice (some ⟨gz, 0, none⟩) cn cn] rfl rfl (cell_one_new _ _ _) (by simp [Value.oneCell']) (by unfold maxLen; omega) (by omega) (by simp; omega) ?_; intro v' w5 hown' hgrow' hnil hloc; have HP := hid (fx_push HS4.out HI4.out HD.out HO4.out HFR.out hown' hgrow' hloc); have HB5 := hid (((Below.refl (w.heap.size + 1) w4).alloc hw4 _).grown hgrow' (Nat.le_trans hw4 (Nat.le_of_lt (alloc_ltS w4 _))) (fun j hj => (HS4.out.row.lt j hj).1)); have z1 := (HB5.out.cell (p := ⟨w.heap.size, 0, none⟩) (Nat.lt_succ_self _)).trans z0; have e1 := (HB5.out.cell (p := ⟨b, _, none⟩) (show b < w.heap.size + 1 by omega)).trans e0; clear hown' hgrow' hnil hloc) | go_in)
    go_roundw
    case rel => exact ⟨k + 1, _, ys, by have := HNL.out; omega, by go_num, HP.out.1, by rw [List.map_append, HXS.out, zer_next hkn (HKD.out.trans HK6.out), HRP.out]; rfl, HP.out.2.1, by rw [zer_skip (by rw [HKD.out, HK6.out]; decide)]; exact HYS.out, HP.out.2.2, boxed_below HX4.out HB5.out⟩
    case measure => simp [intOf] <;> omega
   have q1 : (kd == 36) = false := by simpa using h36
   have HK6 := hid h36
   clear h36
   by_cases h35 : kd = 35
   ·have q2 : (kd == 35) = true := by simpa using h35
    have HK5 := hid h35
    clear h35
    go_wp2_with (first | (at_builtin; refine wpList_append_own_at _ rfl _ _ 30 rfl (w.heap.size + 1) 69 i2 _ 1 24 Tryz.underlying30 HI2.out HZ02.out HZ12.out HZ22.out rfl (by decide) _ _ _ rfl (HI4.out.row.alloc _) ⟨w4.heap.size, 0, none⟩ 1 1 [.slice (some ⟨gz, 0, none⟩) cn cn] rfl rfl (cell_one_new _ _ _) (by simp [Value.oneCell']) (by unfold maxLen; omega) (by omega) (by simp; omega) ?_; intro v' w5 hown' hgrow' hnil hloc; have HP := hid (fx_push HI4.out HS4.out (fun y h1 h2 => HD.out y h2 h1) HO4.out (fun g hg => ⟨(HFR.out g hg).2, (HFR.out g hg).1⟩) hown' hgrow' hloc); have HB5 := hid (((Below.refl (w.heap.size + 1) w4).alloc hw4 _).grown hgrow' (Nat.le_trans hw4 (Nat.le_of_lt (alloc_ltS w4 _))) (fun j hj => (HI4.out.row.lt j hj).1)); have z1 := (HB5.out.cell (p := ⟨w.heap.size, 0, none⟩) (Nat.lt_succ_self _)).trans z0; have e1 := (HB5.out.cell (p := ⟨b, _, none⟩) (show b < w.heap.size + 1 by omega)).trans e0; clear hown' hgrow' hnil hloc) | go_in)
    go_roundw
    case rel => exact ⟨k + 1, xs, _, by have := HNL.out; omega, by go_num, HP.out.2.1, by rw [zer_skip (by rw [HKD.out]; exact HK6.out)]; exact HXS.out, HP.out.1, by rw [List.map_append, HYS.out, zer_next hkn (HKD.out.trans HK5.out), HRP.out]; rfl, fun y h1 h2 => HP.out.2.2 y h2 h1, boxed_below HX4.out HB5.out⟩
    case measure => simp [intOf] <;> omega
   ·have q2 : (kd == 35) = false := by simpa using h35
    have HK5 := hid h35
    clear h35
    go_wp2_with fail
    go_roundw
    case rel => exact ⟨k + 1, xs, ys, by have := HNL.out; omega, by go_num, HS4.out, by rw [zer_skip (by rw [HKD.out]; exact HK6.out)]; exact HXS.out, HI4.out, by rw [zer_skip (by rw [HKD.out]; exact HK5.out)]; exact HYS.out, HD.out, HX4.out⟩
    case measure => simp [intOf] <;> omega
  ·have hki : ¬ (k : Int) < s0.len := by omega
   have hkn : k = M.ns.length := by have := HNL.out; omega
   subst hkn
   obtain ⟨sa, sc, rfl⟩ := HS.out.len
   obtain ⟨ia, ic, rfl⟩ := HI.out.len
   have HVS := hid (HS.out.vals rfl)
   have HVI := hid (HI.out.vals rfl)
   rw [HXS.out] at HVS
   rw [HYS.out] at HVI
   go_wp2_with fail
   refine (c_l4All (B := wr.heap.size) (s0 := s0) (s1 := s1) (s2 := s2) (s3 := s3) (s4 := s4) wr (Nat.le_refl _) ((HMA.out.below (HBX.out.mono hBw)).mono hBr) HVS.out HVI.out h60 HG.out (zer_fits 36 M.ns) (zer_fits 35 M.ns)).mono ?_
   rintro e w4 ⟨v, vs, rfl, hv, hx, hq⟩
   have HE := hid (show AllP M.ns _ _ w (.returned v) w4 from ⟨v, vs, rfl, hv.mono HBX.out.size, hx, HBX.out.trans (hq.mono HBX.out.size)⟩)
   clear hv hx hq x0 x1 x2 x3 x4
   go_wp2_with fail
   go_ret
   exact HE.out
end Go.Proofs.YtlcgimadbpagfaaGreat
namespace Go.Proofs.YtlcgimadbpagfaaGreat
open Go.Lib
open Go.ChangeShapes Go.WideShapes Go.ChangeAt Go.RowKit Go.Maps
set_option linter.unusedVariables false
set_option maxRecDepth 100000
theorem init_in2 {M : MD} {ss : List (List Int)} (hg : nodesGood M.ns) (hs : FitsN 36 M.ns ss) (hb : ∀ t, t < M.is.length → initN M.ns (M.is.getD t default)) {i : Nat} (hil : i < (plcs 36 M.ns M.ns.length).length) (h0 : 0 ≤ bndN M.is ((plcs 36 M.ns M.ns.length).getD i 0)) :
  (bndN M.is ((plcs 36 M.ns M.ns.length).getD i 0)).toNat < M.ns.length ∧ ((evs M.ns (zer (plcs 36 M.ns M.ns.length) M.ns (plcs 36 M.ns M.ns.length).length) (zer (plcs 35 M.ns M.ns.length) M.ns (plcs 35 M.ns M.ns.length).length) M.ns.length).getD (bndN M.is ((plcs 36 M.ns M.ns.length).getD i 0)).toNat []).length = 1 ∧ 1 ≤ (ss.getD i []).length := by
 rcases bnd_cases M.is ((plcs 36 M.ns M.ns.length).getD i 0) with ⟨e, -⟩ | ⟨t, ht, -, hst, hnd⟩
 ·omega
 ·obtain ⟨n0, nl, hf, l1, -⟩ := init_at hg (zer_fits 36 M.ns) (zer_fits 35 M.ns) (hb t ht) hil hst
  obtain ⟨-, -, -, -, l2⟩ := init_at hg hs (zer_fits 35 M.ns) (hb t ht) hil hst
  rw [hnd]
  exact ⟨nl, l1, l2⟩
set_option maxHeartbeats 16000000 in
theorem c_InitFitsS {B : Nat} {s0 s1 s2 s3 s4 : SL} {M : MD} {sa : Option Addr} {sl sc : Nat} {ss : List (List Int)} (w : World) (hBw : B ≤ w.heap.size) (h : ModelAt B w s0 s1 s2 s3 s4 M) (hs : ValsAt B w sa sl sc ss) :
  Calls Tryz.prog 20 #[.agg (mcells s0 s1 s2 s3 s4).toArray, .slice sa sl sc] w fun e w' => BoolIs (InitP M ss) e ∧ Below w.heap.size w w' := by
 have HMA := hid h
 have HS := hid hs
 clear h hs
 simp only [mcells]
 go_enter Tryz.func20, Tryz.ntmps20
 go_upto_region 1 with fail
 refine code_gen (R := fun wb => Boxed s0 s1 s2 s3 s4 w wb) (Boxed.new _ _ _ _ _ _ _) ?_
 intro w0 hbox
 have HX0 := hid hbox
 obtain ⟨hlt, x0, x1, x2, x3, x4, hBx⟩ := hbox
 have hBk := Nat.le_trans hBw hBx.size
 have HM0 := hid (HMA.out.below (hBx.mono hBw))
 have HS0 := hid (HS.out.below (hBx.mono hBw))
 have HBX := hid hBx
 clear hBx
 go_wp2_with fail
 refine (c_StateFitsS (B := B) (s0 := s0) (s1 := s1) (s2 := s2) (s3 := s3) (s4 := s4) w0 hBk HM0.out HS0.out).mono ?_
 rintro e w1 ⟨hb, hq⟩
 have HQ1 := hid hq
 have hB1 : B ≤ w1.heap.size := Nat.le_trans hBk hq.size
 have hlt1 : w.heap.size < w1.heap.size := Nat.lt_of_lt_of_le hlt hq.size
 by_cases hf : FitM 36 M ss
 rotate_left
 ·obtain rfl := boolIs_f hf hb
  have HF := hid hf
  clear hf hb hq
  go_wp2_with fail
  go_ret
  exact ⟨BoolIs.no (fun h => HF.out h.1), HBX.out.trans (HQ1.out.mono HBX.out.size)⟩
 obtain rfl := boolIs_t hf hb
 have HF := hid hf
 have HC := hid hf.1
 have HF36 := hid hf.2
 have HF35 := hid (zer_fits 35 M.ns)
 have HG := hid (code0_parts hf.1).1
 have HIB := hid (code0_all hf.1).2.1
 have HTW := hid (show ¬ againN M.is from fun h => (code0_all hf.1).1 (.inr (.inl h)))
 have hn0 : M.ns.length = s0.len := HMA.out.ns.1
 have h60 : s0.len ≤ 60 := by have h1 := code0_len hf.1; omega
 have HN0 := hid hn0
 clear hn0
 have HM1 := hid (HM0.out.below (hq.mono hBk))
 have HS1 := hid (HS0.out.below (hq.mono hBk))
 have v0 := keepc hq hlt x0
 have v1 := keepc hq hlt x1
 have v2 := keepc hq hlt x2
 have v3 := keepc hq hlt x3
 have v4 := keepc hq hlt x4
 clear hf hb hq x0 x1 x2 x3 x4
 go_wp2_with fail
 refine (c_l4Fixed (B := B) (s0 := s0) (s1 := s1) (s2 := s2) (s3 := s3) (s4 := s4) w1 hB1 HM1.out h60 HG.out).mono ?_
 rintro e w4 ⟨v, xs, rfl, hv, hx, hq⟩
 obtain ⟨va, vc, rfl⟩ := hv.len
 have hxl : xs.length = s0.len := by have := congrArg List.length hx; rw [evs_len] at this; have := HN0.out; simp at *; omega
 have HVL := hid (show ValsAt w4.heap.size w4 va xs.length vc (evs M.ns (zer (plcs 36 M.ns M.ns.length) M.ns (plcs 36 M.ns M.ns.length).length) (zer (plcs 35 M.ns M.ns.length) M.ns (plcs 35 M.ns M.ns.length).length) M.ns.length) from hx ▸ hv.vals rfl)
 rw [hxl] at HVL ⊢
 have HQ4 := hid (HQ1.out.trans (hq.mono HQ1.out.size))
 have hB4 : B ≤ w4.heap.size := Nat.le_trans hB1 hq.size
 have hlt4 := Nat.lt_of_lt_of_le hlt1 hq.size
 have HM4 := hid (HM1.out.below (hq.mono hB1))
 have HT4 := hid (HS1.out.below (hq.mono hB1))
 replace v0 := keepc hq hlt1 v0
 replace v1 := keepc hq hlt1 v1
 replace v2 := keepc hq hlt1 v2
 replace v3 := keepc hq hlt1 v3
 replace v4 := keepc hq hlt1 v4
 clear hv hx hq hxl
 go_wp2_with fail
 refine (c_l2Places (B := B) (s0 := s0) (s1 := s1) (s2 := s2) (s3 := s3) (s4 := s4) 36 w4 hB4 HM4.out h60).mono ?_
 rintro e w5 ⟨vp, rfl, how, hq⟩
 obtain ⟨pa, pc, rfl, -⟩ := own_form how
 have HPI := hid (own_ints how rfl)
 have HQ5 := hid (HQ4.out.trans (hq.mono HQ4.out.size))
 have hB5 : B ≤ w5.heap.size := Nat.le_trans hB4 hq.size
 have hlt5 := Nat.lt_of_lt_of_le hlt4 hq.size
 have HM5 := hid (HM4.out.below (hq.mono hB4))
 have HT5 := hid (HT4.out.below (hq.mono hB4))
 have HVL5 := hid ((HVL.out.below hq).mono hq.size)
 replace v0 := keepc hq hlt4 v0
 replace v1 := keepc hq hlt4 v1
 replace v2 := keepc hq hlt4 v2
 replace v3 := keepc hq hlt4 v3
 replace v4 := keepc hq hlt4 v4
 have hpl60 : (plcs 36 M.ns M.ns.length).length ≤ 60 := by have := plcs_len 36 M.ns M.ns.length; have := HN0.out; omega
 have htl : sl = (plcs 36 M.ns M.ns.length).length := by rw [← HS.out.length]; exact HF36.out.1
 have HSI := hid (show ∀ i, i < (plcs 36 M.ns M.ns.length).length → 0 ≤ bndN M.is ((plcs 36 M.ns M.ns.length).getD i 0) → (bndN M.is ((plcs 36 M.ns M.ns.length).getD i 0)).toNat < M.ns.length ∧ ((evs M.ns (zer (plcs 36 M.ns M.ns.length) M.ns (plcs 36 M.ns M.ns.length).length) (zer (plcs 35 M.ns M.ns.length) M.ns (plcs 35 M.ns M.ns.length).length) M.ns.length).getD (bndN M.is ((plcs 36 M.ns M.ns.length).getD i 0)).toNat []).length = 1 ∧ 1 ≤ (ss.getD i []).length from fun i h1 h2 => init_in2 HG.out HF36.out HIB.out h1 h2)
 have HLE := hid (show ∀ i, i < (plcs 36 M.ns M.ns.length).length → (ss.getD i []).length ≤ 4 from fun i hi' => by
  have h1 := (HF36.out.2 i (by rw [HF36.out.1]; exact hi')).1
  have := cellsN_bound (M.ns.getD (((plcs 36 M.ns M.ns.length)).getD i 0).toNat default).si (M.ns.getD (((plcs 36 M.ns M.ns.length)).getD i 0).toNat default).sw
  omega)
 have HIFF := hid (show initsP M.is (evs M.ns ss (zer (plcs 35 M.ns M.ns.length) M.ns (plcs 35 M.ns M.ns.length).length) M.ns.length) ↔ initsS (plcs 36 M.ns M.ns.length) M.is (evs M.ns (zer (plcs 36 M.ns M.ns.length) M.ns (plcs 36 M.ns M.ns.length).length) (zer (plcs 35 M.ns M.ns.length) M.ns (plcs 35 M.ns M.ns.length).length) M.ns.length) ss from inits_iff HG.out HF36.out HF35.out HIB.out HTW.out)
 clear how hq HVL
 obtain ⟨fx, hfx⟩ : ∃ fx, (evs M.ns (zer (plcs 36 M.ns M.ns.length) M.ns (plcs 36 M.ns M.ns.length).length) (zer (plcs 35 M.ns M.ns.length) M.ns (plcs 35 M.ns M.ns.length).length) M.ns.length) = fx := ⟨_, rfl⟩
 rw [hfx] at HVL5 HSI HIFF
 clear hfx
 obtain ⟨P, hP⟩ : ∃ P, (plcs 36 M.ns M.ns.length) = P := ⟨_, rfl⟩
 rw [hP] at HPI HSI HLE hpl60 htl HIFF ⊢
 clear hP
 go_wp2_with fail
 go_loopw [7] (fun i wr => ∃ k : Nat, k ≤ P.length ∧ i = .int .i64 k ∧ (∀ t, t < k → 0 ≤ bndN M.is (P.getD t 0) → ss.getD t [] = wide (fx.getD (bndN M.is (P.getD t 0)).toNat []) (ss.getD t []).length) ∧ Below w5.heap.size w5 wr) (fun i _ => P.length - (intOf i).toNat)
 case atStart => exact ⟨0, by omega, rfl, fun t h => by omega, Below.refl _ _⟩
 case round =>
  obtain ⟨k, hk, rfl, hno, hB⟩ := hrel
  have HNO := hid hno
  have HB := hid hB
  clear hno hB
  replace v0 := keepc HB.out hlt5 v0
  replace v1 := keepc HB.out hlt5 v1
  replace v2 := keepc HB.out hlt5 v2
  replace v3 := keepc HB.out hlt5 v3
  replace v4 := keepc HB.out hlt5 v4
  have hltr : w.heap.size < wr.heap.size := Nat.lt_of_lt_of_le hlt5 HB.out.size
  have hBr : B ≤ wr.heap.size := Nat.le_trans hB5 HB.out.size
  by_cases hkl : k < P.length
  ·have hki : (k : Int) < P.length := by omega
   obtain ⟨p, b3, o3, hp, -, rfl, hbB3, c0⟩ := int_at (HPI.out.below HB.out) hkl
   have hb3 : b3 < wr.heap.size := Nat.lt_of_lt_of_le hbB3 HB.out.size
   have hSI := HSI.out k hkl
   rw [hp] at hSI
   have HPK := hid hp
   clear hp
   have HXR := hid (HM5.out.is.below (HB.out.mono hB5))
   obtain ⟨q, hq⟩ : ∃ q, bndN M.is p = q := ⟨_, rfl⟩
   have HBQ := hid hq
   rw [hq] at hSI
   clear hq
   go_upto_region 8 with fail
   refine wp_region_held_drew (S := (fun w' => w'.cell? ⟨w.heap.size, 1, none⟩ = some (.slice s1.a s1.len s1.cap) ∧ w'.cell? ⟨b3, o3 + k, none⟩ = some (.int .i64 p))) (by kernel_rfl) ?_ (fun hHeld => ?_)
   ·first | exact ⟨v1, c0⟩ | exact ⟨keepc HQ6.out hltr v1, keepc HQ6.out hb3 c0⟩
   refine tL 0 (some 23) ?_
   refine tL 1 (some 24) ?_
   refine tL 2 (some 25) ?_
   refine tL 3 (some 26) ?_
   refine tL 4 (some 27) ?_
   refine tL 5 (some 28) ?_
   refine wpAnyH_ready (rs := [6]) (by kernel_rfl) (by simp) ?_
   refine .cons (o := _) rfl (fun K hK => ?_) .nil
   go_simp
   refine (c_l4Bound (B := B) p wr.drew hBr (HXR.out.below (Below.refl B wr).drew)).mono ?_
   rintro e w6 ⟨rfl, hw⟩
   rw [HBQ.out]
   have HQ6 := hid (show Below wr.heap.size wr w6 from by rw [hw]; exact (Below.refl _ _).drew)
   clear hw
   (try go_wp2_with fail)
   (try clear hHeld)
   refine hK.out _ _ ?_ (fun hHeld => ?_)
   ·first | exact ⟨v1, c0⟩ | exact ⟨keepc HQ6.out hltr v1, keepc HQ6.out hb3 c0⟩
   clear hK K
   (try simp only [Act.put, zq1, zq2, zq3])
   refine tL 7 (some 8) ?_
   refine wpAnyH_done (by kernel_rfl) ?_ _
   clear hHeld
   go_upto_region 9 with fail
   refine code_gen (R := fun wb => Below w5.heap.size w5 wb) (by first | exact HB.out.trans (HQ6.out.mono HB.out.size) | exact (HB.out.trans (HQ6.out.mono HB.out.size)).drew) ?_
   clear HQ6 c0 v0 v1 v2 v3 v4
   intro w7 hb7
   have HB7 := hid hb7
   clear hb7
   by_cases hq0 : 0 ≤ q
   rotate_left
   ·have HQN := hid hq0
    have hqd : decide (0 ≤ q) = false := by simpa using hq0
    clear hq0
    refine wp_region_held_drew (S := (fun w' => w'.heap.size = w'.heap.size)) (by kernel_rfl) ?_ (fun hHeld => ?_)
    ·exact rfl
    refine tL 0 (some 30) ?_
    refine tL 1 (some 31) ?_
    refine tL 2 (some 32) ?_
    refine tU 3 (some 33) ?_
    refine tU 4 (some 34) ?_
    refine tU 5 (some 35) ?_
    refine tU 6 (some 36) ?_
    refine tU 7 (some 37) ?_
    refine tU 8 (some 38) ?_
    refine tU 9 (some 39) ?_
    refine tU 10 (some 40) ?_
    refine tU 11 (some 41) ?_
    refine tU 12 (some 42) ?_
    refine tU 13 (some 43) ?_
    refine tU 14 (some 44) ?_
    refine tU 15 (some 45) ?_
    refine tU 16 (some 46) ?_
    refine tU 17 (some 47) ?_
    refine tU 18 (some 48) ?_
    refine tU 19 (some 49) ?_
    refine tL 20 (some 50) ?_
    refine wpAnyH_done (by kernel_rfl) ?_ _
    clear hHeld
    go_wp2_with fail
    go_roundw
    case rel => exact ⟨k + 1, by omega, by go_num, fun t ht h0 => by
     rcases Nat.lt_or_ge t k with h | h
     ·exact HNO.out t h h0
     ·obtain rfl : t = k := by omega
      rw [HPK.out, HBQ.out] at h0; exact absurd h0 HQN.out, by first | exact HB7.out | exact HB7.out.drew⟩
    case measure => simp [intOf] <;> omega
   obtain ⟨q1, q2, q3⟩ := hSI hq0
   have q4 := HLE.out k hkl
   have hqd : decide (0 ≤ q) = true := by simpa using hq0
   obtain ⟨q, rfl⟩ : ∃ n : Nat, q = n := ⟨q.toNat, by omega⟩
   rw [Int.toNat_natCast] at q1 q2
   have hql : q < s0.len := by have := HN0.out; omega
   have hqi : (q : Int) < s0.len := by omega
   have hkt : k < sl := by omega
   have hkti : (k : Int) < sl := by omega
   obtain ⟨a1, l1, k1, b1, o1, rfl, hb1, d1, hz1⟩ := val_at (HT5.out.below (HB7.out.mono hB5)) hkt
   obtain ⟨a2, l2, k2, b2, o2, rfl, hb2, d2, hz2⟩ := val_at (HVL5.out.below HB7.out) hql
   have hb1' : b1 < w7.heap.size := by have := HB7.out.size; omega
   have hb2' : b2 < w7.heap.size := by have := HB7.out.size; omega
   obtain rfl : (ss.getD k []).length = l1 := hz1.1
   have HZ1 := hid (hz1.mono (Nat.le_trans hB5 HB7.out.size))
   have HCW := hid (c_l4Wide (B := w7.heap.size) (ss.getD k []).length w7.drew (Nat.le_refl _) ((hz2.mono HB7.out.size).below (Below.refl _ w7).drew) (by omega) (by omega) (by omega))
   have HWL := hid (show (ss.getD k []).length = (wide (fx.getD q []) (ss.getD k []).length).length by rw [wide_one q2 q3, List.length_replicate])
   clear hz1 hz2 q2 q3 q4 hq0
   by_cases heq : ss.getD k [] = wide (fx.getD q []) (ss.getD k []).length
   ·have HEQ := hid heq
    clear heq
    refine wp_region_held_drew (S := (fun w' => w'.cell? ⟨b1, o1 + k, none⟩ = some (.slice a1 (ss.getD k []).length k1) ∧ w'.cell? ⟨b2, o2 + q, none⟩ = some (.slice a2 l2 k2))) (by kernel_rfl) ?_ (fun hHeld => ?_)
    ·first | exact ⟨d1, d2⟩ | exact ⟨keepc HQ9.out hb1' d1, keepc HQ9.out hb2' d2⟩ | exact ⟨keepc HQ8.out hb1' d1, keepc HQ8.out hb2' d2⟩
    refine tL 0 (some 30) ?_
    refine tL 1 (some 31) ?_
    refine tL 2 (some 32) ?_
    refine tL 3 (some 33) ?_
    refine tL 4 (some 34) ?_
    refine tL 5 (some 35) ?_
    refine tL 6 (some 36) ?_
    refine tL 7 (some 37) ?_
    refine tL 8 (some 38) ?_
    refine tL 9 (some 39) ?_
    refine tL 10 (some 40) ?_
    refine tL 11 (some 41) ?_
    refine tL 12 (some 42) ?_
    refine tL 13 (some 43) ?_
    refine tL 14 (some 44) ?_
    refine tL 15 (some 45) ?_
    refine tL 16 (some 46) ?_
    refine wpAnyH_ready (rs := [17]) (by kernel_rfl) (by simp) ?_
    refine .cons (o := _) rfl (fun K hK => ?_) .nil
    go_simp
    refine HCW.out.mono ?_
    rintro e w8 ⟨x, rfl, hown, hq⟩
    have HQ8 := hid (show Below w7.heap.size w7 w8 from ⟨hq.os, hq.tape, hq.output, hq.size, hq.block⟩)
    obtain ⟨xa, xc, rfl, -⟩ := own_form hown
    have HXI := hid (own_ints hown rfl)
    clear hown hq
    (try go_wp2_with fail)
    (try clear hHeld)
    refine hK.out _ _ ?_ (fun hHeld => ?_)
    ·first | exact ⟨d1, d2⟩ | exact ⟨keepc HQ9.out hb1' d1, keepc HQ9.out hb2' d2⟩ | exact ⟨keepc HQ8.out hb1' d1, keepc HQ8.out hb2' d2⟩
    clear hK K
    (try simp only [Act.put, zq1, zq2, zq3])
    refine wpAnyH_ready (rs := [18]) (by kernel_rfl) (by simp) ?_
    refine .cons (o := _) rfl (fun K hK => ?_) .nil
    go_simp
    refine (c_l4Same (B := w8.heap.size) w8 (Nat.le_refl _) ((HZ1.out.below HQ8.out).mono HQ8.out.size) HXI.out HWL.out).mono ?_
    rintro e w9 ⟨hb, hq⟩
    have HQ9 := hid (HQ8.out.trans (hq.mono HQ8.out.size))
    obtain rfl := boolIs_t HEQ.out hb
    clear hb hq
    (try go_wp2_with fail)
    (try clear hHeld)
    refine hK.out _ _ ?_ (fun hHeld => ?_)
    ·first | exact ⟨d1, d2⟩ | exact ⟨keepc HQ9.out hb1' d1, keepc HQ9.out hb2' d2⟩ | exact ⟨keepc HQ8.out hb1' d1, keepc HQ8.out hb2' d2⟩
    clear hK K
    (try simp only [Act.put, zq1, zq2, zq3])
    refine tL 19 (some 49) ?_
    refine tL 20 (some 50) ?_
    refine wpAnyH_done (by kernel_rfl) ?_ _
    clear hHeld
    have HE := hid (HB7.out.trans (HQ9.out.mono HB7.out.size))
    clear d1 d2
    go_wp2_with fail
    go_roundw
    case rel => exact ⟨k + 1, by omega, by go_num, fun t ht h0 => by
     rcases Nat.lt_or_ge t k with h | h
     ·exact HNO.out t h h0
     ·obtain rfl : t = k := by omega
      rw [HPK.out, HBQ.out, Int.toNat_natCast]; exact HEQ.out, HE.out⟩
    case measure => simp [intOf] <;> omega
   ·have HEQ := hid heq
    clear heq
    refine wp_region_held_drew (S := (fun w' => w'.cell? ⟨b1, o1 + k, none⟩ = some (.slice a1 (ss.getD k []).length k1) ∧ w'.cell? ⟨b2, o2 + q, none⟩ = some (.slice a2 l2 k2))) (by kernel_rfl) ?_ (fun hHeld => ?_)
    ·first | exact ⟨d1, d2⟩ | exact ⟨keepc HQ9.out hb1' d1, keepc HQ9.out hb2' d2⟩ | exact ⟨keepc HQ8.out hb1' d1, keepc HQ8.out hb2' d2⟩
    refine tL 0 (some 30) ?_
    refine tL 1 (some 31) ?_
    refine tL 2 (some 32) ?_
    refine tL 3 (some 33) ?_
    refine tL 4 (some 34) ?_
    refine tL 5 (some 35) ?_
    refine tL 6 (some 36) ?_
    refine tL 7 (some 37) ?_
    refine tL 8 (some 38) ?_
    refine tL 9 (some 39) ?_
    refine tL 10 (some 40) ?_
    refine tL 11 (some 41) ?_
    refine tL 12 (some 42) ?_
    refine tL 13 (some 43) ?_
    refine tL 14 (some 44) ?_
    refine tL 15 (some 45) ?_
    refine tL 16 (some 46) ?_
    refine wpAnyH_ready (rs := [17]) (by kernel_rfl) (by simp) ?_
    refine .cons (o := _) rfl (fun K hK => ?_) .nil
    go_simp
    refine HCW.out.mono ?_
    rintro e w8 ⟨x, rfl, hown, hq⟩
    have HQ8 := hid (show Below w7.heap.size w7 w8 from ⟨hq.os, hq.tape, hq.output, hq.size, hq.block⟩)
    obtain ⟨xa, xc, rfl, -⟩ := own_form hown
    have HXI := hid (own_ints hown rfl)
    clear hown hq
    (try go_wp2_with fail)
    (try clear hHeld)
    refine hK.out _ _ ?_ (fun hHeld => ?_)
    ·first | exact ⟨d1, d2⟩ | exact ⟨keepc HQ9.out hb1' d1, keepc HQ9.out hb2' d2⟩ | exact ⟨keepc HQ8.out hb1' d1, keepc HQ8.out hb2' d2⟩
    clear hK K
    (try simp only [Act.put, zq1, zq2, zq3])
    refine wpAnyH_ready (rs := [18]) (by kernel_rfl) (by simp) ?_
    refine .cons (o := _) rfl (fun K hK => ?_) .nil
    go_simp
    refine (c_l4Same (B := w8.heap.size) w8 (Nat.le_refl _) ((HZ1.out.below HQ8.out).mono HQ8.out.size) HXI.out HWL.out).mono ?_
    rintro e w9 ⟨hb, hq⟩
    have HQ9 := hid (HQ8.out.trans (hq.mono HQ8.out.size))
    obtain rfl := boolIs_f HEQ.out hb
    clear hb hq
    (try go_wp2_with fail)
    (try clear hHeld)
    refine hK.out _ _ ?_ (fun hHeld => ?_)
    ·first | exact ⟨d1, d2⟩ | exact ⟨keepc HQ9.out hb1' d1, keepc HQ9.out hb2' d2⟩ | exact ⟨keepc HQ8.out hb1' d1, keepc HQ8.out hb2' d2⟩
    clear hK K
    (try simp only [Act.put, zq1, zq2, zq3])
    refine tL 19 (some 49) ?_
    refine tL 20 (some 50) ?_
    refine wpAnyH_done (by kernel_rfl) ?_ _
    clear hHeld
    have HE := hid (HB7.out.trans (HQ9.out.mono HB7.out.size))
    clear d1 d2
    go_wp2_with fail
    go_ret
    exact ⟨BoolIs.no (fun h => by
     have h2 := HIFF.out.1 h.2 k hkl (by rw [HPK.out, HBQ.out]; omega)
     rw [HPK.out, HBQ.out, Int.toNat_natCast] at h2
     exact HEQ.out h2), (HBX.out.trans (HQ5.out.mono HBX.out.size)).trans (HE.out.mono (Nat.le_of_lt hlt5))⟩
  ·have hki : ¬ (k : Int) < P.length := by omega
   go_wp2_with fail
   go_ret
   exact ⟨BoolIs.yes ⟨HF.out, HIFF.out.2 (fun t ht h0 => HNO.out t (by omega) h0)⟩, (HBX.out.trans (HQ5.out.mono HBX.out.size)).trans (HB.out.mono (Nat.le_of_lt hlt5))⟩
end Go.Proofs.YtlcgimadbpagfaaGreat
