/-
  Parts: ValO, EvM, shortened.
-/
import Derived.Test.YtlcgimadbpagfaaGreatZPaH
import Derived.OneCell
namespace Go.Proofs.YtlcgimadbpagfaaGreat
open Go.Lib
open Go.ChangeShapes Go.WideShapes Go.ChangeAt Go.RowKit Go.Maps
set_option linter.unusedVariables false
set_option maxRecDepth 100000
theorem orow_block {w w' : World} {base n s : Nat} {t : TypeId} {v : Value} {xs : List Value} (h : w.ownsRow base t s v n xs) (hb : ∀ g, base ≤ g → g < w.heap.size → v.ownBlock = some g → w'.heap[g]? = w.heap[g]?) : w'.ownsRow base t s v n xs := by
 have hl := h.lt
 obtain ⟨h1, h2⟩ := h
 refine ⟨h1, ?_⟩
 rcases h2 with h2 | ⟨g, cap, cur, rfl, hbs, hg, h4⟩
 ·exact .inl h2
 ·exact .inr ⟨g, cap, cur, rfl, hbs, (hb g hbs (hl g rfl).2 rfl).trans hg, h4⟩
structure ValRow (base : Nat) (w : World) (v : Value) (xs : List (Value × List Int)) : Prop where
 row : w.ownsRow base 69 1 v xs.length (xs.map Prod.fst)
 own : ∀ p ∈ xs, w.ownsInts base 3 .i64 p.1 p.2
 ne : ∀ p ∈ xs, p.1.ownBlock = none ∨ p.1.ownBlock ≠ v.ownBlock
 dis : xs.Pairwise (fun p q => p.1.ownBlock = none ∨ p.1.ownBlock ≠ q.1.ownBlock)
def ValBlk (v : Value) (xs : List (Value × List Int)) (g : Nat) : Prop := v.ownBlock = some g ∨ ∃ p ∈ xs, p.1.ownBlock = some g
theorem ValRow.nil (base : Nat) (w : World) : ValRow base w (.slice none 0 0) [] := ⟨World.ownsRow_nil _ _ _ _, fun p hp => by simp at hp, fun p hp => by simp at hp, List.Pairwise.nil⟩
theorem ValRow.kept {base : Nat} {w w' : World} {v : Value} {xs : List (Value × List Int)} (h : ValRow base w v xs) (hb : ∀ g, base ≤ g → g < w.heap.size → ValBlk v xs g → w'.heap[g]? = w.heap[g]?) : ValRow base w' v xs :=
 ⟨orow_block h.row (fun g h1 h2 h3 => hb g h1 h2 (.inl h3)), fun p hp => own_block (h.own p hp) (fun g h1 h2 h3 => hb g h1 h2 (.inr ⟨p, hp, h3⟩)), h.ne, h.dis⟩
theorem ValRow.below {base : Nat} {w w' : World} {v : Value} {xs : List (Value × List Int)} (h : ValRow base w v xs) (hb : Below w.heap.size w w') : ValRow base w' v xs := h.kept (fun g _ h2 _ => hb.block g h2)
theorem ValRow.alloc {base : Nat} {w : World} {v : Value} {xs : List (Value × List Int)} (h : ValRow base w v xs) (o : Obj) : ValRow base (w.alloc o) v xs := h.kept (fun g _ h2 _ => Below.heap_alloc _ _ _ h2)
theorem ValRow.mono {base base' : Nat} {w : World} {v : Value} {xs : List (Value × List Int)} (h : ValRow base w v xs) (hb : base' ≤ base) : ValRow base' w v xs :=
 ⟨h.row.mono hb, fun p hp => ⟨(h.own p hp).1.mono hb, (h.own p hp).2⟩, h.ne, h.dis⟩
theorem ValRow.blk {base : Nat} {w : World} {v : Value} {xs : List (Value × List Int)} (h : ValRow base w v xs) {g : Nat} (hg : ValBlk v xs g) : base ≤ g ∧ g < w.heap.size := by
 rcases hg with hg | ⟨p, hp, hg⟩
 ·exact h.row.lt g hg
 ·exact (h.own p hp).1.lt g hg
theorem ValRow.push {base : Nat} {w w1 : World} {o : Obj} {v v' x : Value} {zs : List Int} {xs : List (Value × List Int)} (h : ValRow base w v xs) (hx : w.ownsInts base 3 .i64 x zs) (hf : ∀ g, x.ownBlock = some g → ¬ ValBlk v xs g)
  (hown : w1.ownsRow base 69 1 v' (xs.length + 1) (xs.map Prod.fst ++ [x])) (hg : (w.alloc o).grownBy w1 v.ownBlock) (hat : v'.ownBlock = v.ownBlock ∨ v'.ownBlock = some (w.alloc o).heap.size) : ValRow base w1 v' (xs ++ [(x, zs)]) := by
 have hlt := alloc_ltS w o
 have keep : ∀ g, g < w.heap.size → v.ownBlock ≠ some g → w1.heap[g]? = w.heap[g]? := fun g h1 h2 => (hg.block g (Nat.lt_trans h1 hlt) (fun e => h2 e.symm)).trans (Below.heap_alloc _ _ _ h1)
 have kp : ∀ (y : Value) (ys : List Int), w.ownsInts base 3 .i64 y ys → (y.ownBlock = none ∨ y.ownBlock ≠ v.ownBlock) → w1.ownsInts base 3 .i64 y ys := fun y ys hy hn => own_block hy (fun g _ h2 h3 => keep g h2 (fun e => by
  rcases hn with hn | hn
  ·rw [hn] at h3; cases h3
  ·exact hn (h3.trans e.symm)))
 have hxv : x.ownBlock = none ∨ x.ownBlock ≠ v.ownBlock := by
  cases hxb : x.ownBlock with
  | none => exact .inl rfl
  | some g => exact .inr (fun e => hf g hxb (.inl e.symm))
 have nv : ∀ (y : Value) (ys : List Int), w.ownsInts base 3 .i64 y ys → (y.ownBlock = none ∨ y.ownBlock ≠ v.ownBlock) → (y.ownBlock = none ∨ y.ownBlock ≠ v'.ownBlock) := fun y ys hy hn => by
  rcases hat with hat | hat
  ·rw [hat]; exact hn
  ·cases hyb : y.ownBlock with
   | none => exact .inl rfl
   | some g =>
    refine .inr (fun e => ?_)
    rw [hat] at e
    injection e with e
    have := (hy.1.lt g hyb).2
    omega
 refine ⟨by simpa using hown, fun p hp => ?_, fun p hp => ?_, ?_⟩
 ·rcases List.mem_append.1 hp with hp | hp
  ·exact kp _ _ (h.own p hp) (h.ne p hp)
  ·simp at hp; subst hp; exact kp _ _ hx hxv
 ·rcases List.mem_append.1 hp with hp | hp
  ·exact nv _ _ (h.own p hp) (h.ne p hp)
  ·simp at hp; subst hp; exact nv _ _ hx hxv
 ·refine List.pairwise_append.2 ⟨h.dis, List.pairwise_singleton .., fun p hp q hq => ?_⟩
  simp at hq; subst hq
  cases hpb : p.1.ownBlock with
  | none => exact .inl rfl
  | some g => exact .inr (fun e => hf g e.symm (.inr ⟨p, hp, hpb⟩))
theorem orow_form {w : World} {base n s : Nat} {t : TypeId} {v : Value} {xs : List Value} (h : w.ownsRow base t s v n xs) : ∃ a cap, v = .slice a n cap ∧ n ≤ cap ∧ cap ≤ maxLen ∧ ((a = none ∧ n = 0 ∧ cap = 0) ∨ ∃ g, a = some ⟨g, 0, none⟩ ∧ base ≤ g ∧ g < w.heap.size) := by
 have hl := h.lt
 obtain ⟨h1, h2⟩ := h
 rcases h2 with ⟨rfl, rfl⟩ | ⟨g, cap, cur, rfl, hb, hg, hn, hm, hs, hx⟩
 ·exact ⟨none, 0, rfl, Nat.le_refl _, Nat.zero_le _, .inl ⟨rfl, rfl, rfl⟩⟩
 ·exact ⟨_, _, rfl, hn, hm, .inr ⟨g, rfl, hb, (hl g rfl).2⟩⟩
theorem ValRow.at_ {base : Nat} {w : World} {g n cap k : Nat} {xs : List (Value × List Int)} (h : ValRow base w (.slice (some ⟨g, 0, none⟩) n cap) xs) (hn : n = xs.length) (hk : k < n) :
  ∃ a cp zs, xs.getD k default = (.slice a zs.length cp, zs) ∧ w.cell? ⟨g, k, none⟩ = some (.slice a zs.length cp) ∧ w.ownsInts base 3 .i64 (.slice a zs.length cp) zs ∧ xs.getD k default ∈ xs := by
 subst hn
 have e : xs.getD k default = xs[k] := by simp [List.getD, hk]
 have hm : xs.getD k default ∈ xs := by rw [e]; exact List.getElem_mem ..
 have ho := h.own _ hm
 obtain ⟨a, cp, hf, -⟩ := own_form ho
 refine ⟨a, cp, (xs.getD k default).2, ?_, ?_, by rw [← hf]; exact ho, hm⟩
 ·rw [← hf]
 ·rw [h.row.cellAt k (by omega), ← hf, e]; simp [hk]
theorem ValRow.vals {base : Nat} {w : World} {a : Option Addr} {n cap : Nat} {xs : List (Value × List Int)} (h : ValRow base w (.slice a n cap) xs) (hn : n = xs.length) : ValsAt w.heap.size w a n cap (xs.map Prod.snd) := by
 subst hn
 have hr := h.row
 obtain ⟨a', cap', e, h1, h2, h3⟩ := orow_form hr
 simp only [Value.slice.injEq] at e
 obtain ⟨rfl, -, rfl⟩ := e
 have hx : ∀ p : Value × List Int, p ∈ xs → ∃ a cp, p.1 = .slice a p.2.length cp ∧ IntsAt w.heap.size w a p.2.length cp p.2 := fun p hp => by
  obtain ⟨a, cp, hf, -⟩ := own_form (h.own p hp)
  exact ⟨a, cp, hf, own_ints (hf ▸ h.own p hp) rfl⟩
 have hd : ∀ p : Value × List Int, p ∈ xs → ∃ v : VR, p.1 = .slice v.a v.len v.cap ∧ v.zs = p.2 ∧ v.lies w.heap.size w := fun p hp => by
  obtain ⟨a, cp, e1, e2⟩ := hx p hp
  exact ⟨⟨a, p.2.length, cp, p.2⟩, e1, rfl, e2⟩
 obtain ⟨vs, hvs⟩ : ∃ vs : List VR, vs.map VR.zs = xs.map Prod.snd ∧ vs.map (fun v => Value.slice v.a v.len v.cap) = xs.map Prod.fst ∧ ∀ v ∈ vs, v.lies w.heap.size w := by
  clear hr h3 h h1 h2 hx
  induction xs with
  | nil => exact ⟨[], rfl, rfl, fun v hv => by simp at hv⟩
  | cons p l ih =>
   obtain ⟨vs, h1, h2, h3⟩ := ih (fun q hq => hd q (List.mem_cons_of_mem _ hq))
   obtain ⟨v, e1, e2, e3⟩ := hd p (List.mem_cons_self ..)
   refine ⟨v :: vs, by simp [e2, h1], by simp [e1, h2], fun u hu => ?_⟩
   rcases List.mem_cons.1 hu with rfl | hu
   ·exact e3
   ·exact h3 u hu
 obtain ⟨hv1, hv2, hv3⟩ := hvs
 have hl : vs.length = xs.length := by have := congrArg List.length hv1; simpa using this
 refine ⟨vs, hv1, hl, h1, h2, hv3, fun e => ?_, ?_⟩
 ·rcases h3 with ⟨-, -, h3⟩ | ⟨g, h3, -⟩
  ·exact h3
  ·rw [h3] at e; cases e
 ·rcases h3 with ⟨-, h3, -⟩ | ⟨g, rfl, -, h3⟩
  ·exact .inl h3
  ·refine .inr ⟨g, 0, rfl, h3, fun i hi j hj => ?_⟩
   obtain rfl : j = 0 := by omega
   have e0 : 0 + i * 1 + 0 = i := by omega
   rw [e0, hr.cellAt i (by omega), ← hv2]
   simp [VR.cells, hi]
theorem ValRow.dis_at {base : Nat} {w : World} {v : Value} {xs : List (Value × List Int)} (h : ValRow base w v xs) {t j : Nat} (htj : t < j) (hj : j < xs.length) {g : Nat} (h1 : (xs.getD t default).1.ownBlock = some g) : (xs.getD j default).1.ownBlock ≠ some g := by
 have := List.pairwise_iff_getElem.1 h.dis t j (by omega) hj htj
 have e1 : xs.getD t default = xs[t] := by simp [List.getD, show t < xs.length by omega]
 have e2 : xs.getD j default = xs[j] := by simp [List.getD, hj]
 rw [e1] at h1
 rw [e2]
 rcases this with h2 | h2
 ·rw [h2] at h1; cases h1
 ·rw [h1] at h2; exact fun e => h2 e.symm
theorem made_ints (n : Nat) : (madeCells (Value.int .i64 0).cells (n * 1)).toList = (List.replicate n (0 : Int)).map (Value.int .i64) := by
 apply List.ext_getElem (by simp [madeCells])
 intro i h1 h2
 simp [madeCells, Value.cells, Nat.mod_one]
theorem own_made {w : World} {base n : Nat} {v : Value} (h : w.ownsRow base 3 1 v n (madeCells (Value.int .i64 0).cells (n * 1)).toList) : w.ownsInts base 3 .i64 v (List.replicate n 0) := by
 rw [made_ints] at h
 refine ⟨by simpa using h, fun z hz => ?_⟩
 rw [List.mem_replicate] at hz
 rw [hz.2]
 decide
theorem ValRow.store {base : Nat} {w : World} {v : Value} {xs : List (Value × List Int)} (h : ValRow base w v xs) {k : Nat} (hk : k < xs.length) {g cp n : Nat} {zs : List Int} (he : xs.getD k default = (.slice (some ⟨g, 0, none⟩) n cp, zs)) (j : Nat) {z : Int} (hz : fits z) :
  ValRow base (w.setCell ⟨g, j, none⟩ (.int .i64 z)) v (xs.set k (.slice (some ⟨g, 0, none⟩) n cp, zs.set j z)) := by
 have ek : xs.getD k default = xs[k] := by simp [List.getD, hk]
 rw [ek] at he
 have hm : xs[k] ∈ xs := List.getElem_mem ..
 have hok := h.own _ hm
 rw [he] at hok
 obtain ⟨a', cap', e0, -⟩ := own_form hok
 simp only [Value.slice.injEq] at e0
 obtain ⟨-, hn, -⟩ := e0
 subst hn
 have hne : v.ownBlock ≠ some g := by
  rcases h.ne _ hm with h1 | h1
  ·rw [he] at h1; simp [Value.ownBlock] at h1
  ·rw [he] at h1; exact fun e => h1 e.symm
 have hb : ∀ x, x ≠ g → (w.setCell ⟨g, j, none⟩ (.int .i64 z)).heap[x]? = w.heap[x]? := fun x hx => heap_setCell_other _ _ _ _ hx
 have hfst : (xs.set k (.slice (some ⟨g, 0, none⟩) zs.length cp, zs.set j z)).map Prod.fst = xs.map Prod.fst := by
  rw [List.map_set]
  apply List.ext_getElem (by simp)
  intro i h1 h2
  rw [List.getElem_set]
  split
  ·rename_i e; subst e; simp [he]
  ·rfl
 have hcase : ∀ p ∈ xs.set k (.slice (some ⟨g, 0, none⟩) zs.length cp, zs.set j z), (p = (.slice (some ⟨g, 0, none⟩) zs.length cp, zs.set j z)) ∨ (p ∈ xs ∧ p.1.ownBlock ≠ some g) := by
  intro p hp
  obtain ⟨i, hi, rfl⟩ := List.getElem_of_mem hp
  rw [List.getElem_set]
  split
  ·exact .inl rfl
  ·rename_i e
   simp at hi
   refine .inr ⟨List.getElem_mem .., fun eg => ?_⟩
   rcases Nat.lt_or_ge i k with h1 | h1
   ·exact h.dis_at h1 hk (g := g) (by simpa [List.getD, hi] using eg) (by rw [ek, he]; rfl)
   ·exact h.dis_at (show k < i by omega) hi (g := g) (by rw [ek, he]; rfl) (by simpa [List.getD, hi] using eg)
 have hmap : ∀ (l : List (Value × List Int)), l.map Prod.fst = xs.map Prod.fst → l.Pairwise (fun p q => p.1.ownBlock = none ∨ p.1.ownBlock ≠ q.1.ownBlock) := fun l hl => by
  have h1 := h.dis
  rw [← List.pairwise_map (f := Prod.fst) (R := fun (p q : Value) => p.ownBlock = none ∨ p.ownBlock ≠ q.ownBlock)] at h1 ⊢
  rw [hl]; exact h1
 refine ⟨?_, fun p hp => ?_, fun p hp => ?_, hmap _ hfst⟩
 ·rw [hfst, List.length_set]
  exact orow_block h.row (fun x _ _ h3 => hb x (fun e => hne (by rw [h3, e])))
 ·rcases hcase p hp with rfl | ⟨hp, hg⟩
  ·obtain ⟨hst, -⟩ := hok.1.stored j (.int .i64 z)
   refine ⟨by simpa [List.map_set] using hst, fun y hy => ?_⟩
   rcases List.mem_or_eq_of_mem_set hy with hy | rfl
   ·exact hok.2 y hy
   ·exact hz
  ·exact own_block (h.own p hp) (fun x _ _ h3 => hb x (fun e => hg (by rw [h3, e])))
 ·rcases hcase p hp with rfl | ⟨hp, hg⟩
  ·exact .inr (fun e => hne e.symm)
  ·exact h.ne p hp
theorem ValRow.fresh {base g : Nat} {w : World} {v : Value} {xs : List (Value × List Int)} (h : ValRow base w v xs) (hg : w.heap.size ≤ g) : ¬ ValBlk v xs g := fun hb => by have := (h.blk hb).2; omega
theorem ValRow.len {base : Nat} {w : World} {v : Value} {xs : List (Value × List Int)} (h : ValRow base w v xs) : ∃ a cap, v = .slice a xs.length cap := by
 obtain ⟨a, cap, e, -⟩ := orow_form h.row
 exact ⟨a, cap, e⟩
theorem own_oneCell {w : World} {base : Nat} {v : Value} {zs : List Int} (h : w.ownsInts base 3 .i64 v zs) : ∀ u ∈ [v], u.oneCell' = true := by
 obtain ⟨a, cap, rfl, -⟩ := own_form h
 intro u hu
 simp at hu
 subst hu
 rfl
theorem app_keep {w3 w4 : World} {o : Obj} {v : Value} {k : Nat} (hg : (w3.drew.alloc o).grownBy w4 v.ownBlock) (hk : k < w3.heap.size) (hv : ∀ x, v.ownBlock = some x → k + 1 ≤ x) : w4.heap[k]? = w3.heap[k]? :=
 (hg.block k (Nat.lt_trans hk (alloc_ltS w3.drew o)) (fun e => by have := hv k e.symm; omega)).trans (Below.heap_alloc w3.drew _ _ hk)
end Go.Proofs.YtlcgimadbpagfaaGreat
namespace Go.Proofs.YtlcgimadbpagfaaGreat
open Go.Lib
open Go.ChangeShapes Go.WideShapes Go.ChangeAt Go.RowKit
set_option linter.unusedVariables false
set_option maxRecDepth 100000
theorem flag_ok (b : Bool) : WOk 1 ((b.toNat : Nat) : Int) := by cases b <;> decide
theorem twoV_ok {kind n a b : Int} (ha : WOk n a) (hb : WOk n b) (h6 : 6 ≤ kind) (h28 : kind ≤ 28) : WOk (if kind < 21 then n else 1) (twoV kind n a b) := by
 have f := fun x => frm_ok x ha.1 ha.2.1
 have hp := p2_pos n.toNat
 have a0 := ha.2.2.1
 have a1 := ha.2.2.2
 have b0 := hb.2.2.1
 have b1 := hb.2.2.2
 have hge : 2 ≤ (2 : Int) ^ n.toNat := by have := p2_mono (i := 1) (j := n.toNat) (by have := ha.1; omega); simpa using this
 have tn : ∀ r : Nat, (r : Int) < n → WOk n (turn n.toNat r a) := fun r hr => by
  have := turn_ok (N := n.toNat) (r := r) (by omega) a0 a1
  exact ⟨ha.1, ha.2.1, this.1, this.2⟩
 have hk : kind = 6 ∨ kind = 7 ∨ kind = 8 ∨ kind = 9 ∨ kind = 10 ∨ kind = 11 ∨ kind = 12 ∨ kind = 13 ∨ kind = 14 ∨ kind = 15 ∨ kind = 16 ∨ kind = 17 ∨ kind = 18 ∨ kind = 19 ∨ kind = 20 ∨ kind = 21 ∨ kind = 22 ∨ kind = 23 ∨ kind = 24 ∨ kind = 25 ∨ kind = 26 ∨ kind = 27 ∨ kind = 28 := by omega
 rcases hk with rfl | rfl | rfl | rfl | rfl | rfl | rfl | rfl | rfl | rfl | rfl | rfl | rfl | rfl | rfl | rfl | rfl | rfl | rfl | rfl | rfl | rfl | rfl
 ·show WOk n (vAnd a b)
  exact vAnd_ok ha hb
 ·show WOk n (vOr a b)
  exact vOr_ok ha hb
 ·show WOk n (vXor a b)
  exact vXor_ok ha hb
 ·show WOk n (frm n (a + b))
  exact f _
 ·show WOk n (frm n (a - b))
  exact f _
 ·show WOk n (frm n (a * b))
  exact f _
 ·show WOk n (vDiv n a b)
  unfold vDiv; split
  ·exact ⟨ha.1, ha.2.1, by omega, by omega⟩
  ·exact ⟨ha.1, ha.2.1, Int.ediv_nonneg a0 b0, by have := Int.ediv_le_self b a0; omega⟩
 ·show WOk n (vRem a b)
  unfold vRem; split
  ·exact ha
  ·exact ⟨ha.1, ha.2.1, Int.emod_nonneg _ (by omega), by have := Int.emod_lt_of_pos a (b := b) (by omega); omega⟩
 ·show WOk n (vSdiv n a b)
  unfold vSdiv; split
  ·split
   ·exact ⟨ha.1, ha.2.1, by omega, by omega⟩
   ·exact ⟨ha.1, ha.2.1, by omega, by omega⟩
  ·exact f _
 ·show WOk n (vSrem n a b)
  unfold vSrem; split
  ·exact ha
  ·exact f _
 ·show WOk n (vShl n a b)
  exact f _
 ·show WOk n (vShr a b)
  exact ⟨ha.1, ha.2.1, Int.ediv_nonneg a0 (Int.le_of_lt (p2_pos _)), by unfold vShr; have := Int.ediv_le_self (2 ^ b.toNat) a0; omega⟩
 ·show WOk n (vSar n a b)
  exact f _
 ·show WOk n (vRol n a b)
  unfold vRol
  have h2 := Int.emod_nonneg b (b := n) (by have := ha.1; omega)
  have h3 := Int.emod_lt_of_pos b (b := n) (by have := ha.1; omega)
  exact tn _ (by omega)
 ·show WOk n (vRor n a b)
  unfold vRor
  have h2 := Int.emod_nonneg (n - b % n) (b := n) (by have := ha.1; omega)
  have h3 := Int.emod_lt_of_pos (n - b % n) (b := n) (by have := ha.1; omega)
  exact tn _ (by omega)
 ·exact flag_ok _
 ·exact flag_ok _
 ·exact flag_ok _
 ·exact flag_ok _
 ·exact flag_ok _
 ·exact flag_ok _
 ·exact flag_ok _
 ·exact flag_ok _
theorem oneV_ok {kind n a : Int} (ha : WOk n a) (h1 : 1 ≤ kind) (h5 : kind ≤ 5) : WOk (oneR kind n a).2.1 (oneR kind n a).1 ∧ (oneR kind n a).2.1 = (oneR kind n 0).2.1 := by
 have z : WOk n 0 := ⟨ha.1, ha.2.1, by decide, p2_pos _⟩
 have a0 := ha.2.2.1
 have a1 := ha.2.2.2
 unfold oneR
 rw [if_pos ha, if_pos z]
 by_cases k1 : kind = 1
 ·subst k1; simp only [if_true]; exact ⟨⟨ha.1, ha.2.1, by omega, by omega⟩, trivial⟩
 by_cases k2 : kind = 2
 ·subst k2; simp only [show ¬ (2 : Int) = 1 by decide, if_true, if_false]; exact ⟨frm_ok _ ha.1 ha.2.1, trivial⟩
 by_cases k3 : kind = 3
 ·subst k3; simp only [show ¬ (3 : Int) = 1 by decide, show ¬ (3 : Int) = 2 by decide, if_true, if_false]; exact ⟨flag_ok _, trivial⟩
 by_cases k4 : kind = 4
 ·subst k4; simp only [show ¬ (4 : Int) = 1 by decide, show ¬ (4 : Int) = 2 by decide, show ¬ (4 : Int) = 3 by decide, if_true, if_false]; exact ⟨flag_ok _, trivial⟩
 obtain rfl : kind = 5 := by omega
 simp only [show ¬ (5 : Int) = 1 by decide, show ¬ (5 : Int) = 2 by decide, show ¬ (5 : Int) = 3 by decide, show ¬ (5 : Int) = 4 by decide, if_true, if_false]
 refine ⟨⟨by decide, by decide, by omega, ?_⟩, trivial⟩
 show ones n.toNat a % 2 < 2
 omega
def nodeVal (ns : List ND) (x : ND) (vs : List (List Int)) : List Int :=
 if x.kind = 34 then [x.n]
 else if x.kind = 33 then (if (vs.getD x.a.toNat []).getD 0 0 = 1 then vs.getD x.b.toNat [] else vs.getD x.c.toNat [])
 else if x.kind = 37 then [(vs.getD x.a.toNat []).getD ((vs.getD x.b.toNat []).getD 0 0).toNat 0]
 else if x.kind = 38 then (vs.getD x.a.toNat []).set ((vs.getD x.b.toNat []).getD 0 0).toNat ((vs.getD x.c.toNat []).getD 0 0)
 else if x.kind = 21 then [(((decide (vs.getD x.a.toNat [] = vs.getD x.b.toNat [])).toNat : Nat) : Int)]
 else if x.kind = 29 then [(joinR (sortAt ns x.a).2 ((vs.getD x.a.toNat []).getD 0 0) (sortAt ns x.b).2 ((vs.getD x.b.toNat []).getD 0 0)).1]
 else if x.kind = 30 then [(sliceR (sortAt ns x.a).2 ((vs.getD x.a.toNat []).getD 0 0) x.n x.m).1]
 else if x.kind = 31 ∨ x.kind = 32 then [(growR (sortAt ns x.a).2 ((vs.getD x.a.toNat []).getD 0 0) x.n (decide (x.kind = 32))).1]
 else if 1 ≤ x.kind ∧ x.kind ≤ 5 then [(oneR x.kind (sortAt ns x.a).2 ((vs.getD x.a.toNat []).getD 0 0)).1]
 else [(twoR x.kind (sortAt ns x.a).2 ((vs.getD x.a.toNat []).getD 0 0) ((vs.getD x.b.toNat []).getD 0 0)).1]
def valAt (ns : List ND) (ss is vs : List (List Int)) (k : Nat) : List Int :=
 if (ns.getD k default).kind = 36 then ss.getD (plcs 36 ns k).length [] else if (ns.getD k default).kind = 35 then is.getD (plcs 35 ns k).length [] else nodeVal ns (ns.getD k default) vs
def evs (ns : List ND) (ss is : List (List Int)) : Nat → List (List Int)
 | 0 => []
 | k + 1 => evs ns ss is k ++ [valAt ns ss is (evs ns ss is k) k]
theorem evs_len (ns : List ND) (ss is : List (List Int)) (k : Nat) : (evs ns ss is k).length = k := by
 induction k with
 | zero => rfl
 | succ k ih => simp [evs, ih]
theorem evs_at (ns : List ND) (ss is : List (List Int)) {i k : Nat} (h : i < k) : (evs ns ss is k).getD i [] = (evs ns ss is (i + 1)).getD i [] := by
 induction k with
 | zero => omega
 | succ k ih =>
  by_cases e : i = k
  ·subst e; rfl
  ·rw [← ih (by omega)]
   simp only [evs, List.getD]
   rw [List.getElem?_append_left (by rw [evs_len]; omega)]
theorem evs_new (ns : List ND) (ss is : List (List Int)) (k : Nat) : (evs ns ss is (k + 1)).getD k [] = valAt ns ss is (evs ns ss is k) k := by
 simp [evs, List.getD, evs_len]
def fitK (ns : List ND) (vs : List (List Int)) (k : Nat) : Prop := ∀ i, i < k → valOk (ns.getD i default).si (ns.getD i default).sw (vs.getD i [])
theorem plcs_last {kind : Int} {ns : List ND} {k n : Nat} (hk : (ns.getD k default).kind = kind) (h : k < n) : (plcs kind ns k).length < (plcs kind ns n).length ∧ (plcs kind ns n).getD (plcs kind ns k).length 0 = k := by
 induction n with
 | zero => omega
 | succ n ih =>
  by_cases e : k = n
  ·subst e
   simp only [plcs]; rw [if_pos hk]
   simp [List.getD]
  ·obtain ⟨h1, h2⟩ := ih (by omega)
   simp only [plcs]
   split
   ·refine ⟨by rw [List.length_append]; omega, ?_⟩
    simp only [List.getD] at h2 ⊢
    rw [List.getElem?_append_left h1]; exact h2
   ·exact ⟨h1, h2⟩
theorem valOk_one {sw z : Int} (h : WOk sw z) : valOk 0 sw [z] := by
 refine ⟨?_, fun j hj => ?_⟩
 ·unfold cellsN; rw [if_pos ⟨by decide, by decide, h.1, h.2.1⟩]; rfl
 ·simp at hj; subst hj; exact h
theorem valOk_first {si sw : Int} {zs : List Int} (h : valOk si sw zs) (hs : SOK si sw) : 0 < zs.length ∧ WOk sw (zs.getD 0 0) := by
 have h1 := h.1
 unfold cellsN at h1; rw [if_pos hs] at h1
 have := p2_pos si.toNat
 have h2 : 0 < zs.length := by omega
 exact ⟨h2, h.2 0 h2⟩
theorem valOk_idx {si sw : Int} {zs : List Int} (h : valOk si sw zs) (hs : SOK si sw) {z : Int} (hz : WOk si z) : z.toNat < zs.length := by
 have h1 := h.1
 unfold cellsN at h1; rw [if_pos hs] at h1
 have := hz.2.2.2
 have := hz.2.2.1
 omega
theorem srt_part {ns : List ND} {k t : Nat} {x : ND} (ht : (t : Int) < pcN x.kind) (hp : ptOk (ns.take k).length x t) (hk : k ≤ ns.length) :
  0 ≤ partAt x t ∧ (partAt x t).toNat < k ∧ srt (ns.take k) x t = sortAt ns (partAt x t) := by
 unfold ptOk at hp
 rw [if_pos ht, List.length_take] at hp
 refine ⟨hp.1, by omega, ?_⟩
 unfold srt; rw [if_pos ht]
 unfold sortAt
 have e : (ns.take k).getD (partAt x t).toNat default = ns.getD (partAt x t).toNat default := by
  simp only [List.getD]; rw [List.getElem?_take_of_lt (by omega)]
 rw [e]
theorem sort_of {ns : List ND} {vs : List (List Int)} {k : Nat} (hf : fitK ns vs k) {p : Int} (hp : p.toNat < k) : valOk (sortAt ns p).1 (sortAt ns p).2 (vs.getD p.toNat []) := hf _ hp
def PartOk (vs : List (List Int)) (k : Nat) (p : Int) : Prop := 0 ≤ p ∧ p.toNat < k ∧ 0 < (vs.getD p.toNat []).length
structure NodeIn (vs : List (List Int)) (k : Nat) (x : ND) : Prop where
 pc : 0 ≤ pcN x.kind
 pa : 1 ≤ pcN x.kind → PartOk vs k x.a
 pb : 2 ≤ pcN x.kind → PartOk vs k x.b
 pc3 : 3 ≤ pcN x.kind → PartOk vs k x.c
 idx : x.kind = 37 ∨ x.kind = 38 → 0 ≤ (vs.getD x.b.toNat []).getD 0 0 ∧ ((vs.getD x.b.toNat []).getD 0 0).toNat < (vs.getD x.a.toNat []).length
 same : x.kind = 21 → (vs.getD x.a.toNat []).length = (vs.getD x.b.toNat []).length
theorem node_in {ns : List ND} {k : Nat} {x : ND} {vs : List (List Int)} (hg : nodeGood (ns.take k) x) (hk : k ≤ ns.length) (hf : fitK ns vs k) : NodeIn vs k x := by
 obtain ⟨⟨h60, hpc, ⟨p0, p1, p2⟩, ⟨q0, q1, q2⟩, hnum, hnm, hko⟩, hs⟩ := hg
 have part : ∀ t : Nat, (t : Int) < pcN x.kind → ptOk (ns.take k).length x t → psOk (ns.take k) x t → PartOk vs k (partAt x t) := fun t ht hp hq => by
  obtain ⟨a1, a2, a3⟩ := srt_part ht hp hk
  have hq' := hq ht
  rw [a3] at hq'
  exact ⟨a1, a2, (valOk_first (sort_of hf a2) hq').1⟩
 refine ⟨hpc, fun h => part 0 (by omega) p0 q0, fun h => part 1 (by omega) p1 q1, fun h => part 2 (by omega) p2 q2, fun h => ?_, fun h => ?_⟩
 rotate_left
 ·have h2 : (1 : Int) < pcN x.kind := by rw [h]; decide
  obtain ⟨a1, a2, a3⟩ := srt_part (t := 0) (by omega) p0 hk
  obtain ⟨b1, b2, b3⟩ := srt_part (t := 1) h2 p1 hk
  have e : srt (ns.take k) x 0 = srt (ns.take k) x 1 := by
   unfold kOk at hko
   rw [h] at hko
   simpa [namedB] using hko
  rw [a3, b3] at e
  have fa := (sort_of hf a2).1
  have fb := (sort_of hf b2).1
  rw [e, ← fb] at fa
  have va : partAt x 0 = x.a := rfl
  have vb : partAt x 1 = x.b := rfl
  rw [va, vb] at fa
  omega
 have h2 : (1 : Int) < pcN x.kind := by rcases h with h | h <;> rw [h] <;> decide
 obtain ⟨a1, a2, a3⟩ := srt_part (t := 0) (by omega) p0 hk
 obtain ⟨b1, b2, b3⟩ := srt_part (t := 1) h2 p1 hk
 have qa := q0 (by show ((0 : Nat) : Int) < _; omega)
 have qb := q1 h2
 rw [a3] at qa
 rw [b3] at qb
 have e : srt (ns.take k) x 1 = (0, (srt (ns.take k) x 0).1) := by
  unfold kOk at hko
  rcases h with h | h <;> rw [h] at hko <;> simp [namedB] at hko
  ·exact hko.2
  ·exact hko.2.1
 rw [a3, b3] at e
 have va : partAt x 0 = x.a := rfl
 have vb : partAt x 1 = x.b := rfl
 rw [va] at a2 qa e
 rw [vb] at b2 qb e
 have fb := (valOk_first (sort_of hf b2) qb).2
 rw [e] at fb
 exact ⟨fb.2.2.1, valOk_idx (sort_of hf a2) qa fb⟩
theorem kind_cases {k : Int} (h : 0 ≤ pcN k) : 1 ≤ k ∧ k ≤ 38 := by unfold pcN at h; (repeat' split at h) <;> omega
theorem joinR_fit {n a u b : Int} (ha : WOk n a) (hb : WOk u b) (hok : (joinR n 0 u 0).2.2 = true) : WOk (joinR n 0 u 0).2.1 (joinR n a u b).1 := by
 unfold joinR at *
 split at hok
 ·rename_i h
  rw [if_pos h, if_pos (show JOk n a u b from ⟨ha, hb, h.2.2⟩)]
  have h16 := h.2.2
  have hA := ha.2.2.2
  have hB := hb.2.2.2
  have e : (2 : Int) ^ (n + u).toNat = 2 ^ n.toNat * 2 ^ u.toNat := by rw [Int.toNat_add (by have := ha.1; omega) (by have := hb.1; omega), p2_add]
  refine ⟨by have := ha.1; have := hb.1; show 1 ≤ n + u; omega, h16, ?_, ?_⟩
  ·exact Int.add_nonneg (Int.mul_nonneg ha.2.2.1 (Int.le_of_lt (p2_pos _))) hb.2.2.1
  ·show a * 2 ^ u.toNat + b < 2 ^ (n + u).toNat
   rw [e]
   have : a * 2 ^ u.toNat ≤ (2 ^ n.toNat - 1) * 2 ^ u.toNat := Int.mul_le_mul_of_nonneg_right (by omega) (Int.le_of_lt (p2_pos _))
   rw [Int.sub_mul, Int.one_mul] at this
   omega
 ·simp at hok
theorem sliceR_fit {n a hi lo : Int} (ha : WOk n a) (hok : (sliceR n 0 hi lo).2.2 = true) : WOk (sliceR n 0 hi lo).2.1 (sliceR n a hi lo).1 := by
 unfold sliceR at *
 split at hok
 ·rename_i h
  rw [if_pos h, if_pos (show SOk n a hi lo from ⟨ha, h.2⟩)]
  have h1 := h.2
  have := ha.2.1
  exact ⟨by show 1 ≤ hi - lo + 1; omega, by show hi - lo + 1 ≤ 16; omega, Int.emod_nonneg _ (by have := p2_pos (hi - lo + 1).toNat; omega), Int.emod_lt_of_pos _ (p2_pos _)⟩
 ·simp at hok
theorem growR_fit {n a more : Int} {s : Bool} (ha : WOk n a) (hok : (growR n 0 more false).2.2 = true) : WOk (growR n 0 more false).2.1 (growR n a more s).1 := by
 unfold growR at *
 split at hok
 ·rename_i h
  rw [if_pos h, if_pos (show GOk n a more from ⟨ha, h.2⟩)]
  have h1 := h.2
  have hn := ha.1
  simp only
  cases s with
  | true => exact frm_ok _ (by omega) (by omega)
  | false =>
   refine ⟨by omega, by omega, ha.2.2.1, ?_⟩
   have := p2_mono (i := n.toNat) (j := (n + more).toNat) (by omega)
   have := ha.2.2.2
   show a < _
   omega
 ·simp at hok
theorem node_fits {ns : List ND} {k : Nat} {x : ND} {vs : List (List Int)} (hg : nodeGood (ns.take k) x) (hk : k ≤ ns.length) (hf : fitK ns vs k) (h36 : ¬ x.kind = 36) (h35 : ¬ x.kind = 35) : valOk x.si x.sw (nodeVal ns x vs) := by
 obtain ⟨hok, hs⟩ := hg
 have hs2 := hs
 unfold nSort at hs2
 rw [if_pos hok] at hs2
 obtain ⟨h60, hpc, ⟨p0, p1, p2⟩, ⟨q0, q1, q2⟩, hnum, hnm, hko⟩ := hok
 have hkc := kind_cases hpc
 have hnb : namedB x.kind = false := by unfold namedB; simp [h36, h35]
 have part : ∀ t : Nat, (t : Int) < pcN x.kind → ptOk (ns.take k).length x t → psOk (ns.take k) x t → srt (ns.take k) x t = sortAt ns (partAt x t) ∧ valOk (sortAt ns (partAt x t)).1 (sortAt ns (partAt x t)).2 (vs.getD (partAt x t).toNat []) ∧ SOK (sortAt ns (partAt x t)).1 (sortAt ns (partAt x t)).2 := fun t ht hp hq => by
  obtain ⟨a1, a2, a3⟩ := srt_part ht hp hk
  have hq' := hq ht
  rw [a3] at hq'
  exact ⟨a3, sort_of hf a2, hq'⟩
 unfold kOk at hko
 unfold kSort at hs2
 rw [hnb] at hko hs2
 simp only [Bool.false_eq_true, if_false, false_or] at hko hs2
 unfold nodeVal
 by_cases k34 : x.kind = 34
 ·rw [if_pos k34] at hko hs2 ⊢
  rw [hko.1]; exact valOk_one hko.2
 rw [if_neg k34] at hko hs2 ⊢
 have pc1 : (0 : Int) < pcN x.kind := by unfold pcN; rw [if_neg (by omega)]; unfold pcN at hpc; rw [if_neg (by omega)] at hpc; (repeat' split at hpc) <;> (repeat' split) <;> omega
 obtain ⟨ea, fa, sa⟩ := part 0 pc1 p0 q0
 rw [show partAt x 0 = x.a from rfl] at ea fa sa
 rw [ea] at hko hs2
 by_cases k33 : x.kind = 33
 ·rw [if_pos k33] at hko hs2 ⊢
  have pc3 : pcN x.kind = 3 := by rw [k33]; decide
  obtain ⟨eb, fb, sb⟩ := part 1 (by rw [pc3]; decide) p1 q1
  obtain ⟨ec, fc, sc⟩ := part 2 (by rw [pc3]; decide) p2 q2
  rw [show partAt x 1 = x.b from rfl] at eb fb
  rw [show partAt x 2 = x.c from rfl] at ec fc
  rw [eb, ec] at hko
  rw [eb] at hs2
  have e1 : (sortAt ns x.b).1 = x.si := by rw [hs2]
  have e2 : (sortAt ns x.b).2 = x.sw := by rw [hs2]
  rw [← hko.2, e1, e2] at fc
  rw [e1, e2] at fb
  split
  ·exact fb
  ·exact fc
 rw [if_neg k33] at hko hs2 ⊢
 by_cases k21 : x.kind = 21
 ·rw [if_pos k21] at hko hs2
  rw [if_neg (by omega), if_neg (by omega), if_pos k21]
  have e1 : x.si = 0 := by have := congrArg Prod.fst hs2; exact this.symm
  have e2 : x.sw = 1 := by have := congrArg Prod.snd hs2; exact this.symm
  rw [e1, e2]; exact valOk_one (flag_ok _)
 rw [if_neg k21] at hko hs2
 by_cases k37 : x.kind = 37
 ·rw [if_pos k37] at hko hs2 ⊢
  obtain ⟨eb, fb, sb⟩ := part 1 (by rw [k37]; decide) p1 q1
  rw [show partAt x 1 = x.b from rfl] at eb fb sb
  rw [eb] at hko
  have fbw := (valOk_first fb sb).2
  rw [hko.2] at fbw
  have hi := valOk_idx fa sa fbw
  have e1 : x.si = 0 := by have := congrArg Prod.fst hs2; exact this.symm
  have e2 : x.sw = (sortAt ns x.a).2 := by have := congrArg Prod.snd hs2; exact this.symm
  rw [e1, e2]
  exact valOk_one (fa.2 _ hi)
 rw [if_neg k37] at hko hs2 ⊢
 by_cases k38 : x.kind = 38
 ·rw [if_pos k38] at hko hs2 ⊢
  obtain ⟨eb, fb, sb⟩ := part 1 (by rw [k38]; decide) p1 q1
  obtain ⟨ec, fc, sc⟩ := part 2 (by rw [k38]; decide) p2 q2
  rw [show partAt x 1 = x.b from rfl] at eb fb sb
  rw [show partAt x 2 = x.c from rfl] at ec fc sc
  rw [eb, ec] at hko
  have fcw := (valOk_first fc sc).2
  rw [hko.2.2] at fcw
  have e1 : x.si = (sortAt ns x.a).1 := by have := congrArg Prod.fst hs2; exact this.symm
  have e2 : x.sw = (sortAt ns x.a).2 := by have := congrArg Prod.snd hs2; exact this.symm
  rw [e1, e2]
  refine ⟨by rw [List.length_set]; exact fa.1, fun j hj => ?_⟩
  rw [List.length_set] at hj
  generalize (vs.getD x.a.toNat []) = za at *
  generalize ((vs.getD x.b.toNat []).getD 0 0).toNat = jb at *
  generalize (vs.getD x.c.toNat []).getD 0 0 = zc at *
  by_cases e : jb = j
  ·subst e; simpa [List.getD, hj] using fcw
  ·have := fa.2 j hj
   simpa [List.getD, List.getElem?_set, e] using this
 rw [if_neg k38] at hko hs2 ⊢
 rw [if_neg k21]
 have wa : WOk (sortAt ns x.a).2 ((vs.getD x.a.toNat []).getD 0 0) := (valOk_first fa sa).2
 have e1 : x.si = 0 := by have := congrArg Prod.fst hs2; exact this.symm
 have e2 : x.sw = (kWidth x (sortAt ns x.a).2 (srt (ns.take k) x 1).2).1 := by have := congrArg Prod.snd hs2; exact this.symm
 rw [e1, e2]
 obtain ⟨hkw, -, -⟩ := hko
 unfold kWidth at hkw ⊢
 by_cases k29 : x.kind = 29
 ·rw [if_pos k29] at hkw ⊢; rw [if_pos k29]
  obtain ⟨eb, fb, sb⟩ := part 1 (by rw [k29]; decide) p1 q1
  rw [show partAt x 1 = x.b from rfl] at eb fb sb
  rw [eb] at hkw ⊢
  exact valOk_one (joinR_fit wa (valOk_first fb sb).2 hkw)
 rw [if_neg k29] at hkw ⊢; rw [if_neg k29]
 by_cases k30 : x.kind = 30
 ·rw [if_pos k30] at hkw ⊢; rw [if_pos k30]
  exact valOk_one (sliceR_fit wa hkw)
 rw [if_neg k30] at hkw ⊢; rw [if_neg k30]
 by_cases k31 : x.kind = 31 ∨ x.kind = 32
 ·rw [if_pos k31] at hkw ⊢; rw [if_pos k31]
  exact valOk_one (growR_fit wa hkw)
 rw [if_neg k31] at hkw ⊢; rw [if_neg k31]
 by_cases k5 : 1 ≤ x.kind ∧ x.kind ≤ 5
 ·rw [if_pos k5] at hkw ⊢; rw [if_pos k5]
  obtain ⟨h1, h2⟩ := oneV_ok wa k5.1 k5.2
  rw [h2] at h1
  exact valOk_one h1
 rw [if_neg k5] at hkw ⊢; rw [if_neg k5]
 have k6 : 6 ≤ x.kind ∧ x.kind ≤ 28 := by omega
 obtain ⟨eb, fb, sb⟩ := part 1 (by unfold pcN; rw [if_neg (by omega), if_neg (by omega), if_pos (by omega)]; decide) p1 q1
 rw [show partAt x 1 = x.b from rfl] at eb fb sb
 rw [eb] at hkw ⊢
 simp only [Bool.and_eq_true, decide_eq_true_eq] at hkw
 have wb : WOk (sortAt ns x.a).2 ((vs.getD x.b.toNat []).getD 0 0) := by rw [hkw.2]; exact (valOk_first fb sb).2
 have z : WOk (sortAt ns x.a).2 0 := ⟨wa.1, wa.2.1, by decide, p2_pos _⟩
 rw [twoR_ok wa wb k6.1 k6.2, twoR_ok z z k6.1 k6.2]
 exact valOk_one (twoV_ok wa wb k6.1 k6.2)
theorem evs_fit {ns : List ND} {ss is : List (List Int)} (hg : nodesGood ns) (hs : FitsN 36 ns ss) (hi : FitsN 35 ns is) {k : Nat} (hk : k ≤ ns.length) : fitK ns (evs ns ss is k) k := by
 induction k with
 | zero => intro i hi; omega
 | succ k ih =>
  have ihk := ih (by omega)
  intro i hik
  by_cases e : i = k
  ·subst e
   rw [evs_new]
   unfold valAt
   by_cases h36 : (ns.getD i default).kind = 36
   ·rw [if_pos h36]
    obtain ⟨h1, h2⟩ := plcs_last h36 (show i < ns.length by omega)
    have := hs.2 (plcs 36 ns i).length (by rw [hs.1]; exact h1)
    rw [h2] at this
    simpa using this
   rw [if_neg h36]
   by_cases h35 : (ns.getD i default).kind = 35
   ·rw [if_pos h35]
    obtain ⟨h1, h2⟩ := plcs_last h35 (show i < ns.length by omega)
    have := hi.2 (plcs 35 ns i).length (by rw [hi.1]; exact h1)
    rw [h2] at this
    simpa using this
   rw [if_neg h35]
   exact node_fits (hg i (by omega)) (by omega) ihk h36 h35
  ·rw [evs_at ns ss is (show i < k + 1 by omega), ← evs_at ns ss is (show i < k by omega)]
   exact ihk i (by omega)
theorem nv33 {ns : List ND} {x : ND} {vs : List (List Int)} (hk : x.kind = 33) : nodeVal ns x vs = if (vs.getD x.a.toNat []).getD 0 0 = 1 then vs.getD x.b.toNat [] else vs.getD x.c.toNat [] := by
 unfold nodeVal; rw [if_neg (by omega), if_pos hk]
theorem nv37 {ns : List ND} {x : ND} {vs : List (List Int)} (hk : x.kind = 37) : nodeVal ns x vs = [(vs.getD x.a.toNat []).getD ((vs.getD x.b.toNat []).getD 0 0).toNat 0] := by
 unfold nodeVal; rw [if_neg (by omega), if_neg (by omega), if_pos hk]
theorem nv38 {ns : List ND} {x : ND} {vs : List (List Int)} (hk : x.kind = 38) : nodeVal ns x vs = (vs.getD x.a.toNat []).set ((vs.getD x.b.toNat []).getD 0 0).toNat ((vs.getD x.c.toNat []).getD 0 0) := by
 unfold nodeVal; rw [if_neg (by omega), if_neg (by omega), if_neg (by omega), if_pos hk]
theorem nv21 {ns : List ND} {x : ND} {vs : List (List Int)} (hk : x.kind = 21) : nodeVal ns x vs = [(((decide (vs.getD x.a.toNat [] = vs.getD x.b.toNat [])).toNat : Nat) : Int)] := by
 unfold nodeVal; rw [if_neg (by omega), if_neg (by omega), if_neg (by omega), if_neg (by omega), if_pos hk]
theorem nv21t {ns : List ND} {x : ND} {vs : List (List Int)} (hk : x.kind = 21) (hab : vs.getD x.a.toNat [] = vs.getD x.b.toNat []) : nodeVal ns x vs = [1] := by
 rw [nv21 hk, decide_eq_true hab]; rfl
theorem nv21f {ns : List ND} {x : ND} {vs : List (List Int)} (hk : x.kind = 21) (hab : ¬ vs.getD x.a.toNat [] = vs.getD x.b.toNat []) : nodeVal ns x vs = [0] := by
 rw [nv21 hk, decide_eq_false hab]; rfl
theorem nv29 {ns : List ND} {x : ND} {vs : List (List Int)} (hk : x.kind = 29) : nodeVal ns x vs = [(joinR (sortAt ns x.a).2 ((vs.getD x.a.toNat []).getD 0 0) (sortAt ns x.b).2 ((vs.getD x.b.toNat []).getD 0 0)).1] := by
 unfold nodeVal; rw [if_neg (by omega), if_neg (by omega), if_neg (by omega), if_neg (by omega), if_neg (by omega), if_pos hk]
theorem nv30 {ns : List ND} {x : ND} {vs : List (List Int)} (hk : x.kind = 30) : nodeVal ns x vs = [(sliceR (sortAt ns x.a).2 ((vs.getD x.a.toNat []).getD 0 0) x.n x.m).1] := by
 unfold nodeVal; rw [if_neg (by omega), if_neg (by omega), if_neg (by omega), if_neg (by omega), if_neg (by omega), if_neg (by omega), if_pos hk]
theorem nv31 {ns : List ND} {x : ND} {vs : List (List Int)} (hk : x.kind = 31 ∨ x.kind = 32) : nodeVal ns x vs = [(growR (sortAt ns x.a).2 ((vs.getD x.a.toNat []).getD 0 0) x.n (decide (x.kind = 32))).1] := by
 unfold nodeVal; rw [if_neg (by omega), if_neg (by omega), if_neg (by omega), if_neg (by omega), if_neg (by omega), if_neg (by omega), if_neg (by omega), if_pos hk]
theorem nv1 {ns : List ND} {x : ND} {vs : List (List Int)} (hk : 1 ≤ x.kind ∧ x.kind ≤ 5) : nodeVal ns x vs = [(oneR x.kind (sortAt ns x.a).2 ((vs.getD x.a.toNat []).getD 0 0)).1] := by
 unfold nodeVal; rw [if_neg (by omega), if_neg (by omega), if_neg (by omega), if_neg (by omega), if_neg (by omega), if_neg (by omega), if_neg (by omega), if_neg (by omega), if_pos hk]
theorem nv2 {ns : List ND} {x : ND} {vs : List (List Int)} (hk : 6 ≤ x.kind ∧ x.kind ≤ 28) (h21 : ¬ x.kind = 21) : nodeVal ns x vs = [(twoR x.kind (sortAt ns x.a).2 ((vs.getD x.a.toNat []).getD 0 0) ((vs.getD x.b.toNat []).getD 0 0)).1] := by
 unfold nodeVal; rw [if_neg (by omega), if_neg (by omega), if_neg (by omega), if_neg (by omega), if_neg (by omega), if_neg (by omega), if_neg (by omega), if_neg (by omega), if_neg (by omega)]
end Go.Proofs.YtlcgimadbpagfaaGreat
