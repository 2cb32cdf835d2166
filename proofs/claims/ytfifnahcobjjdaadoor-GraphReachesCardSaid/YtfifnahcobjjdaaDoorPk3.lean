/- GraphRef2, GraphRef3, GraphReach, GraphRef4, in one text. -/
import Derived.Test.YtfifnahcobjjdaaDoorPk2
/- The document's own functions of layer 6, walked: Order. -/
namespace Go.Proofs.YtfifnahcobjjdaaDoor
open Go.RowKit

theorem Row.asInts {w : World} {B : Nat} {A : Option Addr} {n : Nat} {l : List Nat} (h : Row natV w B A n l) : Row intV w B A n (l.map fun x : Nat => (x : Int)) :=
  ⟨by rw [List.length_map]; exact h.len, fun h0 => by
    obtain ⟨ad, e, hb, hc⟩ := h.cells h0
    refine ⟨ad, e, hb, fun k hk => ?_⟩
    rw [hc k hk, List.getElem?_map]
    cases l[k]? <;> rfl⟩
theorem mem_ints {l : List Nat} {x : Nat} : (x : Int) ∈ l.map (fun y : Nat => (y : Int)) ↔ x ∈ l := by
  rw [List.mem_map]
  constructor
  · rintro ⟨a, ha, e⟩
    have : a = x := by omega
    rw [← this]; exact ha
  · intro h; exact ⟨x, h, rfl⟩
def lenV : Value → Nat
  | .slice _ n _ => n
  | _ => 0
/-- The least from k on that may come next, -1 if none. -/
def NextFrom (p : Pg) (l : List Nat) (k : Nat) (nx : Int) : Prop :=
  (nx = -1 ∧ ∀ g, k ≤ g → g < p.len → ¬ Free p l g) ∨ ∃ m : Nat, nx = (m : Int) ∧ k ≤ m ∧ m < p.len ∧ Free p l m ∧ ∀ g, k ≤ g → g < m → ¬ Free p l g
theorem NextFrom.skip {p : Pg} {l : List Nat} {k : Nat} {nx : Int} (h : NextFrom p l (k + 1) nx) (hn : ¬ Free p l k) : NextFrom p l k nx := by
  rcases h with ⟨h1, h2⟩ | ⟨m, h1, h2, h3, h4, h5⟩
  · refine .inl ⟨h1, fun g hg hl => ?_⟩
    by_cases hgk : g = k
    · subst hgk; exact hn
    · exact h2 g (by omega) hl
  · refine .inr ⟨m, h1, by omega, h3, h4, fun g hg hl => ?_⟩
    by_cases hgk : g = k
    · subst hgk; exact hn
    · exact h5 g (by omega) hl
theorem NextFrom.take {p : Pg} {l : List Nat} {k : Nat} (hk : k < p.len) (hf : Free p l k) : NextFrom p l k (k : Int) := .inr ⟨k, rfl, Nat.le_refl _, hk, hf, fun g h1 h2 => by omega⟩
end Go.Proofs.YtfifnahcobjjdaaDoor

/- The document's own functions of layer 6, walked: After. -/
namespace Go.Proofs.YtfifnahcobjjdaaDoor
open Go.RowKit

theorem succ_len2 (x : Nd) : (Q.succ x).length ≤ 2 := by unfold Q.succ; split <;> (try split) <;> simp
theorem succ_i64 {x : Nd} (h : x.Ok) : ∀ y ∈ Q.succ x, I64 y := by
  intro y hy
  unfold Q.succ at hy
  split at hy
  · cases hy
  · split at hy
    · simp only [List.mem_cons, List.not_mem_nil, or_false] at hy
      rcases hy with rfl | rfl
      · exact h.next
      · exact h.alt
    · simp only [List.mem_cons, List.not_mem_nil, or_false] at hy
      subst hy; exact h.next
/-- Flags, as cells. -/
def outB (o : Nat → Bool) (n : Nat) : List Value := (List.range n).map fun g => .bool (o g)
theorem outB_at (o : Nat → Bool) (n f : Nat) (hf : f < n) : (outB o n)[f]? = some (.bool (o f)) := by
  unfold outB
  rw [List.getElem?_map, List.getElem?_range hf]; rfl
theorem outB_len (o : Nat → Bool) (n : Nat) : (outB o n).length = n := by simp [outB]
theorem outB_set (o : Nat → Bool) (n f : Nat) : (outB o n).set f (.bool true) = outB (fun g => if g = f then true else o g) n := by
  apply List.ext_getElem?
  intro i
  by_cases hi : i < n
  · rw [outB_at _ n i hi]
    by_cases hif : f = i
    · subst hif
      rw [List.getElem?_set_self (by rw [outB_len]; exact hi), if_pos rfl]
    · rw [List.getElem?_set_ne hif, outB_at _ n i hi, if_neg (fun e => hif e.symm)]
  · rw [List.getElem?_eq_none (by rw [List.length_set, outB_len]; omega), List.getElem?_eq_none (by rw [outB_len]; omega)]
theorem outB_zero (n : Nat) : List.replicate n (Value.bool false) = outB (fun _ => false) n := by
  apply List.ext_getElem?
  intro i
  by_cases hi : i < n
  · rw [outB_at _ n i hi, List.getElem?_replicate, if_pos hi]
  · rw [List.getElem?_eq_none (by rw [List.length_replicate]; omega), List.getElem?_eq_none (by rw [outB_len]; omega)]
theorem bool_info : (Tryd.prog.info? 4).map (fun i => (i.zero, i.size, i.bytes)) = some (some (.bool false), 1, 1) := by kernel_rfl
end Go.Proofs.YtfifnahcobjjdaaDoor

/- Which functions some come to by calls, round by round, on plain data. -/
namespace Go.Proofs.YtfifnahcobjjdaaDoor
open Go.RowKit

/-- A call of a function that there is. -/
def CallIn (p : Pg) (x y : Nat) : Prop := Q.calls p x y ∧ y < p.len
/-- One of these, or come to by calls. -/
def Comes (p : Pg) (from_ : Nat → Prop) (f : Nat) : Prop := f < p.len ∧ (from_ f ∨ ∃ j, from_ j ∧ j < p.len ∧ Q.Reach (CallIn p) p.len j f)
def Shut (p : Pg) (o : Nat → Bool) : Prop := ∀ j i, j < p.len → o j = true → CallIn p j i → o i = true
def Right (p : Pg) (from_ : Nat → Prop) (o : Nat → Bool) : Prop := ∀ i, o i = true → Comes p from_ i
theorem comes_call {p : Pg} {from_ : Nat → Prop} {j i : Nat} (h : Comes p from_ j) (hc : CallIn p j i) : Comes p from_ i := by
  refine ⟨hc.2, .inr ?_⟩
  rcases h with ⟨hj, h | ⟨k, hk, hkl, hr⟩⟩
  · exact ⟨j, h, hj, .one hc⟩
  · exact ⟨k, hk, hkl, hr.trans hj (.one hc)⟩
theorem shut_all {p : Pg} {from_ : Nat → Prop} {o : Nat → Bool} (hs : Shut p o) (h0 : ∀ j, from_ j → j < p.len → o j = true) {f : Nat} (h : Comes p from_ f) : o f = true := by
  obtain ⟨hf, h | ⟨j, hj, hjl, hr⟩⟩ := h
  · exact h0 f h hf
  · have key : ∀ x y, Q.Reach (CallIn p) p.len x y → x < p.len → o x = true → o y = true := by
      intro x y hr
      induction hr with
      | one he => intro hx ho; exact hs _ _ hx ho he
      | more he hk _ ih => intro hx ho; exact ih hk (hs _ _ hx ho he)
    exact key j f hr hjl (h0 j hj hjl)
structure CallInv (p : Pg) (from_ : Nat → Prop) (o0 o : Nat → Bool) (i : Nat) : Prop where
  mono : ∀ g, o0 g = true → o g = true
  right : Right p from_ o
  done : ∀ j y, j < i → o0 j = true → CallIn p j y → o y = true
  keep : Shut p o0 → ∀ g, o g = true → o0 g = true
theorem CallInv.start {p : Pg} {from_ : Nat → Prop} {o : Nat → Bool} (h : Right p from_ o) : CallInv p from_ o o 0 := ⟨fun _ h => h, h, fun j y hj => by omega, fun _ _ h => h⟩
/-- Its calls, one by one: k of the ids cs are done. -/
structure NameInv (n : Nat) (o o' : Nat → Bool) (f : Nat) (cs : List Nat) (k : Nat) : Prop where
  mono : ∀ g, o g = true → o' g = true
  self : o' f = true → o f = true
  new : ∀ g, o' g = true → o g = true ∨ (o f = true ∧ g < n ∧ g ∈ cs)
  done : ∀ (j g : Nat), j < k → cs[j]? = some g → g < n → o f = true → o' g = true
theorem NameInv.start (n : Nat) (o : Nat → Bool) (f : Nat) (cs : List Nat) : NameInv n o o f cs 0 := ⟨fun _ h => h, fun h => h, fun _ h => .inl h, fun j g hj => by omega⟩
theorem NameInv.skip {n : Nat} {o o' : Nat → Bool} {f : Nat} {cs : List Nat} {k y : Nat} (h : NameInv n o o' f cs k) (hy : cs[k]? = some y) (hn : ¬ (o' f = true ∧ y < n)) : NameInv n o o' f cs (k + 1) := by
  refine ⟨h.mono, h.self, h.new, fun j g hj hjs hg hof => ?_⟩
  by_cases hjk : j = k
  · subst hjk; rw [hy] at hjs; cases hjs; exact absurd ⟨h.mono f hof, hg⟩ hn
  · exact h.done j g (by omega) hjs hg hof
theorem NameInv.set {n : Nat} {o o' : Nat → Bool} {f : Nat} {cs : List Nat} {k y : Nat} (h : NameInv n o o' f cs k) (hy : cs[k]? = some y) (hf : o' f = true) (hlt : y < n) : NameInv n o (fun g => if g = y then true else o' g) f cs (k + 1) := by
  have hf2 := h.self hf
  refine ⟨fun g hg => ?_, fun _ => hf2, fun g hg => ?_, fun j g hj hjs hg hof => ?_⟩
  · split
    · rfl
    · exact h.mono g hg
  · by_cases hgy : g = y
    · subst hgy; exact .inr ⟨hf2, hlt, List.mem_of_getElem? hy⟩
    · simp only [if_neg hgy] at hg
      rcases h.new g hg with h1 | ⟨h1, h2, h3⟩
      · exact .inl h1
      · exact .inr ⟨hf2, h2, h3⟩
  · by_cases hgy : g = y
    · rw [if_pos hgy]
    · rw [if_neg hgy]
      by_cases hjk : j = k
      · subst hjk; rw [hy] at hjs; cases hjs; exact absurd rfl hgy
      · exact h.done j g (by omega) hjs hg hof
/-- A function is done. -/
theorem CallInv.step {p : Pg} {from_ : Nat → Prop} {o0 o o' : Nat → Bool} {i : Nat} {fn : Fn} (h : CallInv p from_ o0 o i) (hl : p.fns.length = p.len) (h32 : p.len ≤ 32) (hi : p.fns[i]? = some fn) (hst : NameInv p.len o o' i (namedL fn.nodes 7) (namedL fn.nodes 7).length) : CallInv p from_ o0 o' (i + 1) := by
  have hil : i < p.len := by rw [← hl]; exact (List.getElem?_eq_some_iff.1 hi).1
  have call : ∀ g, g < p.len → g ∈ namedL fn.nodes 7 → CallIn p i g := by
    intro g hg hm
    obtain ⟨_, nd, hnd, h7, ha⟩ := named_mem.1 hm
    exact ⟨⟨fn, hi, nd, hnd, h7, ha⟩, hg⟩
  refine ⟨fun g hg => hst.mono g (h.mono g hg), fun g hg => ?_, fun j y hj hsj he => ?_, fun hc g hg => ?_⟩
  · rcases hst.new g hg with h1 | ⟨h1, h2, h3⟩
    · exact h.right g h1
    · exact comes_call (h.right i h1) (call g h2 h3)
  · by_cases hji : j = i
    · subst hji
      obtain ⟨⟨fn', hx', nd, hnd, h7, ha⟩, hyl⟩ := he
      rw [hi] at hx'; cases hx'
      obtain ⟨k, hk⟩ := List.mem_iff_getElem?.1 (named_mem.2 ⟨by omega, nd, hnd, h7, ha⟩ : y ∈ namedL fn.nodes 7)
      exact hst.done k y (List.getElem?_eq_some_iff.1 hk).1 hk hyl (h.mono j hsj)
    · exact hst.mono y (h.done j y (by omega) hsj he)
  · rcases hst.new g hg with h1 | ⟨h1, h2, h3⟩
    · exact h.keep hc g h1
    · exact hc i g hil (h.keep hc i h1) (call g h2 h3)
theorem CallInv.gain {p : Pg} {from_ : Nat → Prop} {o0 o : Nat → Bool} {r : Nat} (h : CallInv p from_ o0 o p.len) (hr : Shut p o0 ∨ r ≤ cnt o0 p.len) : Shut p o ∨ r + 1 ≤ cnt o p.len := by
  by_cases hc : Shut p o0
  · exact .inl fun j i hj hs he => h.mono i (hc j i hj (h.keep hc j hs) he)
  · have hr' := hr.resolve_left hc
    have hx : ∃ j i, j < p.len ∧ o0 j = true ∧ CallIn p j i ∧ o0 i = false := by
      refine Classical.byContradiction fun hno => hc fun j i hj hs he => ?_
      cases ho : o0 i
      · exact absurd ⟨j, i, hj, hs, he, ho⟩ hno
      · rfl
    obtain ⟨j, i, hj, hs, he, ho⟩ := hx
    have := cnt_lt (f := i) p.len (fun g _ hg => h.mono g hg) he.2 ho (h.done j i hj hs he)
    exact .inr (by omega)
theorem shut_end {p : Pg} {o : Nat → Bool} (h : Shut p o ∨ p.len ≤ cnt o p.len) : Shut p o := by
  rcases h with h | h
  · exact h
  · intro j i hj ho he
    cases hoi : o i
    · have := cnt_lt (P := o) (P' := fun _ => true) (f := i) p.len (fun _ _ _ => rfl) he.2 hoi rfl
      have h2 := cnt_le (fun _ => true) p.len
      omega
    · rfl
end Go.Proofs.YtfifnahcobjjdaaDoor

/- The document's own functions of layer 6, walked: Reach. -/
namespace Go.Proofs.YtfifnahcobjjdaaDoor
open Go.RowKit

/-- The flags below m, as a list of numbers. -/
def trueTo (o : Nat → Bool) (m : Nat) : List Nat := (List.range m).filter fun i => o i
theorem trueTo_succ (o : Nat → Bool) (m : Nat) : trueTo o (m + 1) = trueTo o m ++ (if o m then [m] else []) := by
  unfold trueTo
  rw [List.range_succ, List.filter_append]
  by_cases h : o m <;> simp [h]
theorem trueTo_len (o : Nat → Bool) (m : Nat) : (trueTo o m).length ≤ m := by
  have := List.length_filter_le (fun i => o i) (List.range m)
  simpa [trueTo] using this

set_option maxRecDepth 1000000 in
set_option maxHeartbeats 16000000 in
theorem ref_reach (B : Nat) (p : Pg) (w : World) (hp : p.Ok w B) (A2 : Option Addr) (n2 c2 : Nat) (fr : List Nat) (hr2 : Row natV w B A2 n2 fr) (hn2 : n2 ≤ 100000) (hB : B ≤ w.heap.size) (h32 : p.len ≤ 32) (hsm : Q.small p = true) :
    Calls Tryd.prog 12 #[pgA p, .slice A2 n2 c2] w fun e w' => ∃ v o, e = .returned v ∧ (∀ i, i < p.len → (o i = true ↔ Comes p (fun x => x ∈ fr) i)) ∧ Own w' w.heap.size 3 v ((trueTo o p.len).map natV) ∧ Below w.heap.size w w' := by
  have HP := kp hp; have HR2 := kp hr2
  have HLen := kp hp.row.len
  have HL2 := kp hr2.len
  have HSm : Kept (∀ f ∈ p.fns, f.nodes.length ≤ 100) := kp (by
    unfold Q.small at hsm
    rw [Bool.and_eq_true] at hsm
    intro f hf
    simpa using List.all_eq_true.1 hsm.2 f hf)
  have hcap : p.len ≤ p.cap := hp.lc
  have hcapm := hp.cm
  unfold maxLen at hcapm
  clear hp hr2 hsm
  rw [pgA_is]
  go_enter Tryd.func12, Tryd.ntmps12
  go_wp2_with (first
    | ((with_reducible refine wpList_box_agg rfl 24 (.tmp 0) rfl (pgC p) rfl ?_); intro g1 w3 hg1 hk1 hu1; have HKc := kp hk1; have HW3 := kp hu1; have hs3 := hu1.size; obtain ⟨hc0, hc1, hc2, hc3⟩ := pg_cells hk1; clear hg1 hk1 hu1)
    | ((with_reducible show wpList _ _ _ (⟨some 18, _, _, _, _, _⟩ :: _) _ _); go_must (refine wpList_make_blk rfl 47 (.tmp 17) (.tmp 17) rfl 4 (.bool false) 1 Tryd.underlying47 bool_info rfl .i64 .i64 p.len p.len rfl rfl (by omega) (by omega) (by omega) ?_); intro go w4 hgo hk4 hw4; rw [outB_zero] at hk4; have HO4 := kp hk4; have HW4 := kp hw4; clear hk4 hw4 hc0 hc1 hc2 hc3))
  have HPW : Kept (∀ W, Below w3.heap.size w3 W → p.Ok W B) := kp fun W hW => HP.out.below ((HW3.out.mono hB).trans (hW.mono (by omega)))
  have HR2W : Kept (∀ W, Below w3.heap.size w3 W → Row natV W B A2 n2 fr) := kp fun W hW => HR2.out.below ((HW3.out.mono hB).trans (hW.mono (by omega)))
  have HC3 : Kept (∀ W, Below w3.heap.size w3 W → W.cell? ⟨g1, 3, none⟩ = some (.slice p.A p.len p.cap)) := kp fun W hW => (pg_cells (HKc.out.below hW HKc.out.lt)).2.2.2
  have HSZ : Kept (∀ W, Below w3.heap.size w3 W → B ≤ W.heap.size ∧ w3.heap.size ≤ W.heap.size) := kp fun W hW => by have := hW.size; omega
  go_loopw [7] (fun v7 wr => ∃ (i : Nat) (o : Nat → Bool), i ≤ n2 ∧ v7 = .int .i64 i ∧ (∀ g, o g = true → g < p.len ∧ g ∈ fr) ∧ (∀ (j g : Nat), j < i → fr[j]? = some g → g < p.len → o g = true) ∧ Blk wr go 4 (outB o p.len) ∧ Below w3.heap.size w3 wr) (fun v7 _ => n2 - (intOf v7).toNat)
  case atStart => exact ⟨0, fun _ => false, by omega, rfl, (fun g h => by cases h), fun j g hj => by omega, HO4.out, HW4.out⟩
  case round =>
    clear HO4 HW4
    obtain ⟨i, o, hi, rfl, ho1, ho2, hob, hbw⟩ := hrel
    have H1 := kp ho1; have H2 := kp ho2; have HO := kp hob; have HBw := kp hbw
    have hr2w := HR2W.out wr hbw
    have hsz := hbw.size
    clear ho1 ho2 hob hbw
    by_cases hlt : i < n2
    · obtain ⟨ad2, y, rfl, hab2, hy, hcy⟩ := hr2w.get hlt
      rw [natV_def] at hcy
      have HY := kp hy
      have h2g : ad2.block ≠ go := by omega
      clear hy hr2w
      by_cases hyn : y < p.len
      · have hcg : wr.cell? ⟨go, y, none⟩ = some (.bool (o y)) := (HO.out.cell y).trans (outB_at o p.len y hyn)
        have hfg := HO.out.frozen y
        go_wp2
        go_roundw
        case rel =>
          refine ⟨i + 1, fun g => if g = y then true else o g, by omega, by go_num, fun g hg => ?_, fun j g hj hjs hg => ?_, by rw [← outB_set]; exact HO.out.set y _, HBw.out.grown (grown_set (g := go) (grown_refl _ _)) hsz (by intro b e; cases e; exact hgo)⟩
          · by_cases hgy : g = y
            · subst hgy; exact ⟨hyn, List.mem_of_getElem? HY.out⟩
            · simp only [if_neg hgy] at hg; exact H1.out g hg
          · show (if g = y then true else o g) = true
            by_cases hgy : g = y
            · rw [if_pos hgy]
            · rw [if_neg hgy]
              by_cases hji : j = i
              · subst hji; rw [HY.out] at hjs; cases hjs; exact absurd rfl hgy
              · exact H2.out j g (by omega) hjs hg
        case measure => simp [intOf]; omega
      · have hyge : p.len ≤ y := by omega
        clear hyn
        go_wp2
        go_roundw
        case rel =>
          refine ⟨i + 1, o, by omega, by go_num, H1.out, fun j g hj hjs hg => ?_, HO.out, HBw.out⟩
          by_cases hji : j = i
          · subst hji; rw [HY.out] at hjs; cases hjs; omega
          · exact H2.out j g (by omega) hjs hg
        case measure => simp [intOf]; omega
    · have hge : n2 ≤ i := by omega
      have hdb : decide (i < n2) = false := decide_eq_false hlt
      have HIn0 : Kept (∀ j, j ∈ fr → j < p.len → o j = true) := kp (by
        intro j hj hjl
        obtain ⟨k, hk⟩ := List.mem_iff_getElem?.1 hj
        have := (List.getElem?_eq_some_iff.1 hk).1
        rw [HL2.out] at this
        exact H2.out k j (by omega) hk hjl)
      have HRt0 : Kept (Right p (fun x => x ∈ fr) o) := kp (fun g hg => ⟨(H1.out g hg).1, .inl (H1.out g hg).2⟩)
      clear hlt hr2w hge
      go_wp2
      clear hdb
      go_loopw [8] (fun v8 wr => ∃ (r : Nat) (o : Nat → Bool), r ≤ p.len ∧ v8 = .int .i64 r ∧ Right p (fun x => x ∈ fr) o ∧ (∀ j, j ∈ fr → j < p.len → o j = true) ∧ (Shut p o ∨ r ≤ cnt o p.len) ∧ Blk wr go 4 (outB o p.len) ∧ Below w3.heap.size w3 wr) (fun v8 _ => p.len - (intOf v8).toNat)
      case atStart => exact ⟨0, o, by omega, rfl, HRt0.out, HIn0.out, .inr (Nat.zero_le _), HO.out, HBw.out⟩
      case round =>
        clear HO HBw H1 H2 HIn0 HRt0 hsz
        obtain ⟨r, o0, hr, rfl, hrt, hin, hsh, hob, hbw⟩ := hrel
        have HRt := kp hrt; have HIn := kp hin; have HSh := kp hsh; have HO0 := kp hob; have HBw := kp hbw
        clear hrt hin hsh hob hbw
        by_cases hltr : r < p.len
        · go_wp2
          go_loopw [9] (fun v9 wr => ∃ (f : Nat) (o : Nat → Bool), f ≤ p.len ∧ v9 = .int .i64 f ∧ CallInv p (fun x => x ∈ fr) o0 o f ∧ Blk wr go 4 (outB o p.len) ∧ Below w3.heap.size w3 wr) (fun v9 _ => p.len - (intOf v9).toNat)
          case atStart => exact ⟨0, o0, by omega, rfl, CallInv.start HRt.out, HO0.out, HBw.out⟩
          case round =>
            clear HO0 HBw
            obtain ⟨f, o, hf, rfl, hinv, hob, hbw⟩ := hrel
            have HInv := kp hinv; have HO := kp hob; have HBw := kp hbw
            have hgo2 := hob.lt
            obtain ⟨hsB, hs33⟩ := HSZ.out wr hbw
            clear hinv hob
            by_cases hltf : f < p.len
            · obtain ⟨ad0, fn, e0, _, hfn, hfok, hcf⟩ := (HPW.out wr hbw).fn hltf
              have hc3 : wr.cell? ⟨g1, 3, none⟩ = some (.slice (some ad0) p.len p.cap) := by rw [← e0]; exact HC3.out wr hbw
              have HFn := kp hfn; have HFok := kp hfok
              have hflm : fn.len ≤ 100 := by
                have h1 := HSm.out fn (List.mem_of_getElem? hfn)
                have h2 := hfok.nodes.1.len
                omega
              obtain ⟨cs, hcs⟩ : ∃ cs, namedL fn.nodes 7 = cs := ⟨_, rfl⟩
              obtain ⟨nc, hnc⟩ : ∃ nc, cs.length = nc := ⟨_, rfl⟩
              have hnc32 : nc ≤ 32 := by rw [← hnc, ← hcs]; exact namedTo_len _ _ _
              have HCs := kp hcs; have HNc := kp hnc
              clear hfn hfok hcs hnc hbw e0
              go_wp2_with (first
                | (go_at_call 9; go_must (refine (ref_named B fn.A fn.len fn.cap fn.nodes 7 wr HFok.out.nodes (by omega) hsB).mono ?_); rintro e w7 ⟨v7, rfl, hown7, hb7⟩
                   rw [HCs.out] at hown7
                   have HBk7 := kp hown7.block
                   obtain ⟨A7, c7, rfl, hc7, hm7, hr7⟩ := Own.readsN hown7 HNc.out
                   have HR7 := kp hr7
                   have HB7 : Kept (Below w3.heap.size w3 w7) := kp (HBw.out.trans (hb7.mono hs33))
                   have HO7 := kp (HO.out.below hb7 hgo2)
                   have hz7 := hb7.size
                   have hm77 : c7 ≤ 9223372036854775807 := by unfold maxLen at hm7; omega
                   clear hown7 hb7 hm7 hr7 hc3 hcf))
              go_loopw [11] (fun v11 wr => ∃ (k : Nat) (o' : Nat → Bool), k ≤ nc ∧ v11 = .int .i64 k ∧ NameInv p.len o o' f cs k ∧ Blk wr go 4 (outB o' p.len) ∧ Row natV wr w7.heap.size A7 nc cs ∧ w7.heap.size ≤ wr.heap.size ∧ Below w3.heap.size w3 wr) (fun v11 _ => nc - (intOf v11).toNat)
              case atStart => exact ⟨0, o, by omega, rfl, NameInv.start _ _ _ _, HO7.out, HR7.out, Nat.le_refl _, HB7.out⟩
              case round =>
                clear HO7 HR7 HB7 HO HBw
                obtain ⟨k, o', hk, rfl, hstep, hob, hr7, hsz7, hbw⟩ := hrel
                have HStep := kp hstep; have HO := kp hob; have HR7 := kp hr7; have HBw := kp hbw
                have hcf : wr.cell? ⟨go, f, none⟩ = some (.bool (o' f)) := (hob.cell f).trans (outB_at o' p.len f hltf)
                obtain ⟨bf, hbf⟩ : ∃ bf, o' f = bf := ⟨_, rfl⟩
                rw [hbf] at hcf
                have HBf := kp hbf
                clear hstep hob hr7 hbw hbf
                by_cases hltk : k < nc
                · obtain ⟨ad7, y, e7, had7, hy, hcy⟩ := HR7.out.get hltk
                  rw [natV_def] at hcy
                  have HY := kp hy
                  have h7g : ad7.block ≠ go := by
                    have := HBk7.out ad7.block (by rw [e7]; rfl)
                    omega
                  subst e7
                  clear hy
                  by_cases hyn : y < p.len
                  · have hcg : wr.cell? ⟨go, y, none⟩ = some (.bool (o' y)) := (HO.out.cell y).trans (outB_at o' p.len y hyn)
                    have hfg := HO.out.frozen y
                    cases bf
                    · have HSt2 := kp (HStep.out.skip HY.out (fun h => by rw [HBf.out] at h; cases h.1))
                      clear hcg hfg
                      go_wp2
                      go_roundw
                      case rel => exact ⟨k + 1, o', by omega, by go_num, HSt2.out, HO.out, HR7.out, hsz7, HBw.out⟩
                      case measure => simp [intOf]; omega
                    · have HSt2 := kp (HStep.out.set HY.out HBf.out hyn)
                      go_wp2
                      go_roundw
                      case rel => exact ⟨k + 1, fun g => if g = y then true else o' g, by omega, by go_num, HSt2.out, by rw [← outB_set]; exact HO.out.set y _, HR7.out.grown (grown_set (g := go) (grown_refl _ _)) (by omega) (fun a _ e e2 => by cases e; cases e2; exact h7g rfl), by simpa using hsz7, HBw.out.grown (grown_set (g := go) (grown_refl _ _)) (HSZ.out wr HBw.out).2 (by intro b e; cases e; exact hgo)⟩
                      case measure => simp [intOf]; omega
                  · have HSt2 := kp (HStep.out.skip HY.out (fun h => hyn h.2))
                    have hyge : p.len ≤ y := by omega
                    clear hyn
                    cases bf
                    · go_wp2
                      go_roundw
                      case rel => exact ⟨k + 1, o', by omega, by go_num, HSt2.out, HO.out, HR7.out, hsz7, HBw.out⟩
                      case measure => simp [intOf]; omega
                    · go_wp2
                      go_roundw
                      case rel => exact ⟨k + 1, o', by omega, by go_num, HSt2.out, HO.out, HR7.out, hsz7, HBw.out⟩
                      case measure => simp [intOf]; omega
                · have hgek : nc ≤ k := by omega
                  have hke : k = (namedL fn.nodes 7).length := by rw [HCs.out, HNc.out]; omega
                  have HNext := kp (HInv.out.step HLen.out h32 HFn.out (by have h := HStep.out; rw [hke, ← HCs.out] at h; exact h))
                  clear hltk hke
                  go_wp2
                  go_roundw
                  case rel => exact ⟨f + 1, o', by omega, by go_num, HNext.out, HO.out, HBw.out⟩
                  case measure => simp [intOf]; omega
            · have hgef : p.len ≤ f := by omega
              have hfe : f = p.len := by omega
              have HG := kp (show Shut p o ∨ r + 1 ≤ cnt o p.len from by have h := HInv.out; rw [hfe] at h; exact h.gain HSh.out)
              have HRt2 := kp HInv.out.right
              have HIn2 : Kept (∀ j, j ∈ fr → j < p.len → o j = true) := kp (fun j h1 h2 => HInv.out.mono j (HIn.out j h1 h2))
              clear hltf hfe hbw
              go_wp2
              go_roundw
              case rel => exact ⟨r + 1, o, by omega, by go_num, HRt2.out, HIn2.out, HG.out, HO.out, HBw.out⟩
              case measure => simp [intOf]; omega
        · have hger : p.len ≤ r := by omega
          have hdb : decide (r < p.len) = false := decide_eq_false hltr
          have hre : r = p.len := by omega
          have HSe : Kept (Shut p o0) := kp (shut_end (by have h := HSh.out; rw [hre] at h; exact h))
          clear hltr hre hger
          go_wp2
          clear hdb
          go_loopw [12, 13] (fun v12 v13 wr => ∃ m : Nat, m ≤ p.len ∧ v13 = .int .i64 m ∧ Own wr w3.heap.size 3 v12 ((trueTo o0 m).map natV) ∧ (∀ i, i < p.len → wr.cell? ⟨go, i, none⟩ = some (.bool (o0 i))) ∧ Below w3.heap.size w3 wr ∧ go < wr.heap.size ∧ (∀ b, v12.ownBlock = some b → b ≠ go)) (fun _ v13 _ => p.len - (intOf v13).toNat)
          case atStart => exact ⟨0, by omega, rfl, Own.nil _ _ _, fun i hi => (HO0.out.cell i).trans (outB_at o0 p.len i hi), HBw.out, HO0.out.lt, fun b h => by cases h⟩
          case round =>
            clear HO0 HBw
            obtain ⟨m, hm, rfl, hown, hcg, hbw, hgw, hnb⟩ := hrel
            have HOwn := kp hown; have HCg := kp hcg; have HBw := kp hbw; have HNb := kp hnb
            have hml := trueTo_len o0 m
            have hs9 := hbw.size
            clear hown hcg hbw hnb
            by_cases hltm : m < p.len
            · have hcm := HCg.out m hltm
              obtain ⟨bm, hbm⟩ : ∃ bm, o0 m = bm := ⟨_, rfl⟩
              rw [hbm] at hcm
              have HBm := kp hbm
              have hm32 : m < 32 := by omega
              clear hbm
              cases bm
              · have HT : Kept (trueTo o0 (m + 1) = trueTo o0 m) := kp (by rw [trueTo_succ, HBm.out]; simp)
                go_wp2
                go_roundw
                case rel => exact ⟨m + 1, by omega, by go_num, by rw [HT.out]; exact HOwn.out, HCg.out, HBw.out, hgw, HNb.out⟩
                case measure => simp [intOf]; omega
              · have HT : Kept (trueTo o0 (m + 1) = trueTo o0 m ++ [m]) := kp (by rw [trueTo_succ, HBm.out]; simp)
                go_wp2_with (at_builtin; go_must (refine wpList_append_one rfl (.tmp 90) (.tmp 92) 31 rfl w3.heap.size 3 _ _ Tryd.underlying31 int_info rfl _ _ _ _ rfl HOwn.out _ 1 rfl rfl rfl (by simp [maxLen]; omega) (by simp; omega) hs9 ?_); intro v1 w5 hown1 hg1; have HO5 := kp hown1; clear hown1; have HG5 := kp hg1; clear hg1)
                go_roundw
                case rel =>
                  refine ⟨m + 1, by omega, by go_num, by rw [HT.out, List.map_append]; exact HO5.out, fun i hi => ?_, HG5.out.below HBw.out HOwn.out hs9, Nat.lt_of_lt_of_le hgw HG5.out.size, fun b hb => ?_⟩
                  · rw [← HCg.out i hi]
                    exact World.cell?_of_block (HG5.out.1.block go hgw (fun e => HNb.out go e.symm rfl))
                  · rcases HG5.out.2 with h | h
                    · exact HNb.out b (h.symm.trans hb)
                    · have := h b hb; omega
                case measure => simp [intOf]; omega
            · have hgem : p.len ≤ m := by omega
              have hme : m = p.len := by omega
              have HOe := kp (show Own wr w3.heap.size 3 _ ((trueTo o0 p.len).map natV) from by have h := HOwn.out; rw [hme] at h; exact h)
              clear hltm hme
              go_wp2
              go_ret
              exact ⟨_, o0, rfl, fun i hi => ⟨fun h => HRt.out i h, fun h => shut_all HSe.out HIn.out h⟩, HOe.out.less hs3, HW3.out.trans (HBw.out.mono hs3)⟩
end Go.Proofs.YtfifnahcobjjdaaDoor
