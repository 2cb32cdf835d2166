/- A program printed, as the program has it, walked: Print. -/
import Derived.Test.YtiojobajcnifpaaDoorPk23
import Derived.Test.YtiojobajcnifpaaDoorPk18
import Derived.Test.YtiojobajcnifpaaDoorPk17
import Derived.Test.YtiojobajcnifpaaDoorPk13
namespace Go.Proofs.YtiojobajcnifpaaDoor
open Go.RowKit
set_option linter.unusedVariables false

theorem text_snoc (ls : List (List UInt8)) (x : List UInt8) : T.text (ls ++ [x]) = T.text ls ++ (x ++ [10]) := by simp [T.text]
theorem name_len (k : Int) : (T.name k).length ≤ 6 := by
  unfold T.name
  rcases Nat.lt_or_ge k.toNat 10 with h | h
  · have hc : ∀ j, j < 10 → (T.names.getD j []).length ≤ 6 := by decide
    exact hc _ h
  · rw [List.getD_eq_getElem?_getD, List.getElem?_eq_none (by simpa [T.names] using h)]; simp
theorem name_ok {k : Int} (h0 : 0 ≤ k) (h9 : k ≤ 9) : (if k < 0 ∨ 9 < k then [] else T.names.getD k.toNat []) = T.name k := by rw [if_neg (by omega)]; rfl
theorem told_vals {x : Nd} (hx : C.NdOk x) : (((T.tl x.kind.toNat).map fun j => (C.fld x j).toNat).map fun v => ((v : Nat) : Int)) = T.told x := by
  unfold T.told
  rw [List.map_map]
  refine List.map_congr_left fun j hj => ?_
  have := hx.fields j (T.tl_le _ j hj)
  show (((C.fld x j).toNat : Nat) : Int) = _
  exact Int.toNat_of_nonneg this.1
theorem told_small {x : Nd} (hx : C.NdOk x) : ∀ v ∈ (T.tl x.kind.toNat).map fun j => (C.fld x j).toNat, v < 100 := by
  intro v hv
  obtain ⟨j, hj, rfl⟩ := List.mem_map.1 hv
  have h1 := (hx.fields j (T.tl_le _ j hj)).1
  have h2 := (hx.fields j (T.tl_le _ j hj)).2
  show (C.fld x j).toNat < 100
  omega
theorem ndC_fld (x : Nd) {j : Nat} (hj : j ≤ 2) : (ndC x)[j + 1]? = some (.int .i64 (C.fld x j)) := by
  have h : j = 0 ∨ j = 1 ∨ j = 2 := by omega
  rcases h with rfl | rfl | rfl <;> rfl
theorem ndL_len {x : Nd} (hx : C.NdOk x) : (T.ndL x).length ≤ 20 := by
  unfold T.ndL T.lineOf
  have h1 := name_len x.kind
  have h2 := tail_len (T.told x) (fun v hv => by
    rw [← told_vals hx] at hv
    obtain ⟨n, hn, rfl⟩ := List.mem_map.1 hv
    have := told_small hx n hn
    omega)
  have h3 : (T.told x).length ≤ 3 := by unfold T.told; rw [List.length_map]; exact T.tl_len _
  rw [List.length_append]
  omega
theorem sb_zero : (Tryd.prog.info? 63).map (·.zero) = some (some (.agg [Value.pointer none, .slice none 0 0].toArray)) := by kernel_rfl
theorem sb_lt {w : World} {B b : Nat} {l : List UInt8} (h : SB B b l w) : b < w.heap.size := by
  rcases h with h | h <;> exact h.lt
theorem sb_at {w w' : World} {B b : Nat} {p : Value} {bs : List Value} (h : Lib.BuilderAtF 63 5 B b p bs w) (hb : Below w.heap.size w w') : Lib.BuilderAtF 63 5 B b p bs w' := by
  have hlt := h.lt
  obtain ⟨hB, v, hbk, hown, hne⟩ := h
  refine ⟨hB, v, by rw [hb.block b hlt]; exact hbk, hown.kept (row := none) ⟨hb.os, hb.tape, hb.output, hb.size, fun k hk _ => hb.block k hk⟩ ?_, hne⟩
  cases hv : v.ownBlock with
  | none => exact .inl rfl
  | some k => exact .inr (by simp)
theorem sb_on {w w' : World} {B b : Nat} {l : List UInt8} (h : SB B b l w) (hb : Below w.heap.size w w') : SB B b l w' := by
  rcases h with h | h
  · exact .inl (sb_at h hb)
  · exact .inr (sb_at h hb)
theorem sb_new {w : World} {B b : Nat} (hk : Blk w b 63 [.pointer none, .slice none 0 0]) (hB : B ≤ b) : SB B b [] w :=
  .inl ⟨hB, _, hk, World.ownsRowF_nil w B 5 1, by simp [Value.ownBlock]⟩

set_option maxRecDepth 1000000 in
set_option maxHeartbeats 4000000 in
theorem tx_print_not (B : Nat) (p : Pg) (w : World) (hp : p.Ok w B) (hB : B ≤ w.heap.size) (a b : Int) (c : Nat) (hc : Q.check p = (a, b, c)) (h0 : c ≠ 0) :
    Calls Tryd.prog 15 #[pgA p] w fun e w' => e = .returned (.tuple #[.string (T.str []), .int .i64 (c : Int)]) ∧ Below w.heap.size w w' := by
  have HP := kp hp; have HC := kp hc
  have hcb : ((c : Int) != 0) = true := by rw [bne_iff_ne]; omega
  clear hp hc h0
  rw [pgA_is]
  go_enter Tryd.func15, Tryd.ntmps15
  go_wp2_with (first
    | ((with_reducible refine wpList_box_agg rfl 25 (.tmp 0) rfl (pgC p) rfl ?_); intro g1 w1 hg1 hk1 hw1; have HK1 := kp hk1; have HW1 := kp hw1; have hs1 := hw1.size; have HP1 := kp (HP.out.below (hw1.mono hB)); clear hg1 hk1 hw1)
    | ((with_reducible show wpList _ _ _ (⟨some 13, _, _, _, _, _⟩ :: _) _ _); go_must (refine wpList_load_blk rfl 25 (.tmp 1) rfl g1 rfl _ (pgC p) _ HK1.out Tryd.underlying25 rfl pg_size ?_))
    | (go_at_call 22; go_must (refine (prog_check_any B p _ HP1.out (by omega) a b c HC.out).mono ?_); rintro e9 w2 ⟨rfl, hw2⟩; have HW2 := kp (HW1.out.trans (hw2.mono hs1)); clear hw2))
  go_ret2
  exact ⟨rfl, HW2.out⟩

set_option maxRecDepth 1000000 in
set_option maxHeartbeats 16000000 in
theorem tx_print (B : Nat) (p : Pg) (w : World) (hE : Env w) (hp : p.Ok w B) (hB : B ≤ w.heap.size) (a b : Int) (hc : Q.check p = (a, b, 0)) (hok : C.PDOk (C.dataOf p)) :
    Calls Tryd.prog 15 #[pgA p] w fun e w' => e = .returned (.tuple #[.string (T.str (T.print (C.dataOf p))), .int .i64 0]) ∧ Below w.heap.size w w' := by
  have HP := kp hp; have HC := kp hc; have HE := kp hE; have HOk := kp hok
  have hlen := hp.row.len
  have HLen := kp hlen
  obtain ⟨gn, hgn⟩ : ∃ gn : Nat, p.g = gn := ⟨p.g.toNat, by have := hok.g.1; have h : 0 ≤ p.g := this; omega⟩
  obtain ⟨ln, hln⟩ : ∃ ln : Nat, p.l = ln := ⟨p.l.toNat, by have := hok.l.1; have h : 0 ≤ p.l := this; omega⟩
  obtain ⟨sn, hsn⟩ : ∃ sn : Nat, p.s = sn := ⟨p.s.toNat, by have := hok.s.1; have h : 0 ≤ p.s := this; omega⟩
  have hg9 : gn < 100 := by have := hok.g.2; have h : p.g ≤ 16 := this; omega
  have hl9 : ln < 100 := by have := hok.l.2; have h : p.l ≤ 16 := this; omega
  have hs9 : sn < 100 := by have := hok.s.2; have h : p.s ≤ 8 := this; omega
  have hp16 : p.len ≤ 16 := by have := hok.len; unfold C.dataOf at this; simp at this; omega
  have HHead : Kept (T.lineOf T.alibi ([gn, ln, sn].map fun v => ((v : Nat) : Int)) = T.lineOf T.alibi (p.g :: p.l :: p.s :: [])) := kp (by rw [hgn, hln, hsn]; rfl)
  have HCs : Kept (∀ (i j v : Nat), ([0, 1, 2] : List Nat)[i]? = some j → ([gn, ln, sn] : List Nat)[i]? = some v → (pgC p)[j]? = some (.int .i64 ((v : Nat) : Int))) := kp (fun i j v hj hv => by
    match i, hj, hv with
    | 0, hj, hv => cases hj; cases hv; rw [← hgn]; rfl
    | 1, hj, hv => cases hj; cases hv; rw [← hln]; rfl
    | 2, hj, hv => cases hj; cases hv; rw [← hsn]; rfl)
  have HVs : Kept (∀ v ∈ [gn, ln, sn], v < 100) := kp (by intro v hv; simp at hv; omega)
  clear hp hc hE hok hgn hln hsn hlen
  rw [pgA_is]
  go_enter Tryd.func15, Tryd.ntmps15
  go_wp2_with (first
    | ((with_reducible refine wpList_box_agg rfl 25 (.tmp 0) rfl (pgC p) rfl ?_); intro g1 w1 hg1 hk1 hw1; have HK1 := kp hk1; have HW1 := kp hw1; have hs1 := hw1.size; have HP1 := kp (HP.out.below (hw1.mono hB)); have hgl1 := hk1.lt; clear hk1 hw1)
    | ((with_reducible show wpList _ _ _ (⟨some 13, _, _, _, _, _⟩ :: _) _ _); go_must (refine wpList_load_blk rfl 25 (.tmp 1) rfl g1 rfl _ (pgC p) _ HK1.out Tryd.underlying25 rfl pg_size ?_))
    | (go_at_call 22; go_must (refine (prog_check_any B p _ HP1.out (by omega) a b 0 HC.out).mono ?_); rintro e9 w2 ⟨rfl, hw2⟩; have HW2 := kp (HW1.out.trans (hw2.mono hs1)); have HK2 := kp (HK1.out.below hw2 hgl1); have hs2 := hw2.size; clear hw2)
    | ((with_reducible show wpList _ _ _ (⟨some 7, _, _, _, _, _⟩ :: _) _ _); go_must (refine wpList_alloc_zero rfl 63 rfl _ sb_zero ?_); intro bb w3 hbb hkb hw3; have HSB3 := kp (sb_new (B := w.heap.size) hkb (by omega)); have HW3 := kp (HW2.out.trans (hw3.mono (by omega))); have HK3 := kp (HK2.out.below hw3 (by omega)); have hs3 := hw3.size; have hbl := hkb.lt; clear hkb hw3)
    | (go_at_call 26; fail))
  have hal : Below w3.heap.size w3 (w3.alloc (.cells #[spotT g1 0, spotT g1 1, spotT g1 2] 65)) := (Below.refl _ _).alloc (Nat.le_refl _) _
  have HSB4 : Kept (SB w.heap.size bb [] (w3.alloc (.cells #[spotT g1 0, spotT g1 1, spotT g1 2] 65))) := kp (HSB3.out.alloc _)
  have HK4 : Kept (Blk (w3.alloc (.cells #[spotT g1 0, spotT g1 1, spotT g1 2] 65)) g1 25 (pgC p)) := kp (HK3.out.below hal HK3.out.lt)
  have HW4 := kp (HW3.out.trans (hal.mono (by omega)))
  have hsz4 := hal.size
  have hgb : g1 ≠ bb := by omega
  refine (tx_printLine w.heap.size bb [] T.alibi g1 25 (pgC p) [0, 1, 2] [gn, ln, sn] (some ⟨w3.heap.size, 0, none⟩) 3 3 _ HSB4.out (by omega) rfl (Nat.le_refl _) rfl (fun _ => ⟨w3.heap.size, [spotT g1 0, spotT g1 1, spotT g1 2], rfl, Blk.newA _ _ _ _ rfl, rfl, by omega⟩) (fun _ => HK4.out) (by decide) (fun _ => hgb) HCs.out HVs.out (by simp) (by decide)).mono ?_
  rintro e w5 ⟨rfl, hb5, hw5, ho5⟩
  rw [HHead.out, List.nil_append] at hb5
  obtain ⟨hd, hhd⟩ : ∃ hd, T.lineOf T.alibi (p.g :: p.l :: p.s :: []) = hd := ⟨_, rfl⟩
  have HHd := kp hhd
  rw [hhd] at hb5
  have hhl : hd.length ≤ 20 := by
    rw [← hhd, ← HHead.out]
    unfold T.lineOf
    have h := tail_len ([gn, ln, sn].map fun v => ((v : Nat) : Int)) (fun x hx => by
      obtain ⟨v, hv, rfl⟩ := List.mem_map.1 hx
      have := HVs.out v hv
      omega)
    rw [List.length_append]
    have h2 : T.alibi.length = 5 := rfl
    simp only [List.length_map, List.length_cons, List.length_nil] at h
    omega
  have HB5 : Kept (SB w.heap.size bb (T.text [hd]) w5) := kp (by simpa [T.text] using hb5)
  have HW5 := kp (HW4.out.trans hw5)
  have hc3 : w5.cell? ⟨g1, 3, none⟩ = some (.slice p.A p.len p.cap) := by rw [(kept_blk ho5 HK4.out (by decide) hgb).cell]; rfl
  have hs5 := HW5.out.size
  clear hb5 hw5 ho5 hal hhd
  go_wp2
  go_loopw [29] (fun v29 wr => ∃ f : Nat, f ≤ p.len ∧ v29 = .int .i64 f ∧ SB w.heap.size bb (T.text (hd :: T.linesL ((C.dataOf p).L.take f))) wr ∧ (T.text (hd :: T.linesL ((C.dataOf p).L.take f))).length ≤ 100 + f * 2000 ∧ Below w.heap.size w wr) (fun v29 _ => p.len - (intOf v29).toNat)
  case atStart => exact ⟨0, by omega, rfl, HB5.out, by simp [T.text, T.linesL]; omega, HW5.out⟩
  case round =>
    obtain ⟨f, hf, rfl, hbr, htl, hwr⟩ := hrel
    have HBr := kp hbr; have HWr := kp hwr; have HTl := kp htl
    have hsr := hwr.size
    clear hbr hwr htl hc3
    by_cases hlt : f < p.len
    · obtain ⟨ad, fn, e1, hab, hx, hfok, hcf⟩ := (HP.out.below (HWr.out.mono hB)).fn hlt
      rw [e1]
      have HX := kp hx; have HFok := kp hfok
      have hLf : (C.dataOf p).L[f]? = some fn.nodes := by unfold C.dataOf; simp only [List.getElem?_map, hx, Option.map_some]
      have HLf := kp hLf
      have hfno := HOk.out.fns fn.nodes (List.mem_of_getElem? hLf)
      have HFn := kp hfno
      have hn64 := hfno.len
      have hnl : fn.nodes.length = fn.len := hfok.nodes.1.len
      have HNl := kp hnl
      rw [hnl] at hn64
      clear hx hfok hLf hfno e1 hnl
      go_wp2_with (first | (go_at_call 26; fail))
      refine (tx_printLine w.heap.size bb _ T.func bb 25 [] [] [] none 0 0 _ HBr.out (by omega) rfl (by omega) rfl (fun h => absurd h (by omega)) (fun h => absurd h (by omega)) (by decide) (fun h => absurd h (by omega)) (fun i j v hj _ => by simp at hj) (by simp) (by have := HTl.out; omega) (by decide)).mono ?_
      rintro e w6 ⟨rfl, hb6, hw6, _⟩
      have HB6 : Kept (SB w.heap.size bb (T.text (hd :: (T.linesL ((C.dataOf p).L.take f) ++ [T.func]))) w6) := kp (by
        have e : T.text (hd :: (T.linesL ((C.dataOf p).L.take f) ++ [T.func])) = T.text (hd :: T.linesL ((C.dataOf p).L.take f)) ++ (T.lineOf T.func ([].map fun v => ((v : Nat) : Int)) ++ [10]) := by rw [← List.cons_append, text_snoc]; rfl
        rw [e]; exact hb6)
      have HT6 : Kept ((T.text (hd :: (T.linesL ((C.dataOf p).L.take f) ++ [T.func]))).length ≤ 200 + f * 2000) := kp (by
        rw [← List.cons_append, text_snoc, List.length_append]
        have h1 := HTl.out
        have h2 : (T.func ++ [10]).length = 5 := rfl
        omega)
      have HW6 := kp (HWr.out.trans hw6)
      have hs6 := HW6.out.size
      have HF0 : Kept (fn.Ok w B) := kp (HFok.out.keep (w' := w) (fun q hq => (HWr.out.cell (by omega)).symm))
      clear hb6 hw6 hcf
      go_wp2
      go_loopw [36] (fun v36 wq => ∃ i : Nat, i ≤ fn.len ∧ v36 = .int .i64 i ∧ SB w.heap.size bb (T.text (hd :: (T.linesL ((C.dataOf p).L.take f) ++ T.func :: (fn.nodes.take i).map T.ndL))) wq ∧ (T.text (hd :: (T.linesL ((C.dataOf p).L.take f) ++ T.func :: (fn.nodes.take i).map T.ndL))).length ≤ 200 + f * 2000 + i * 25 ∧ Below w.heap.size w wq) (fun v36 _ => fn.len - (intOf v36).toNat)
      case atStart => exact ⟨0, by omega, rfl, HB6.out, by have := HT6.out; simpa using this, HW6.out⟩
      case round =>
        obtain ⟨i, hi, rfl, hbq, htq, hwq⟩ := hrel
        have HBq := kp hbq; have HTq := kp htq; have HWq := kp hwq
        have hsq := hwq.size
        clear hbq htq hwq
        by_cases hli : i < fn.len
        · obtain ⟨ad2, x, e2, hab2, hxn, hxok, k0, k1, k2, k3⟩ := (HF0.out.keep (w' := wr) (fun q hq => HWq.out.cell (by omega))).nodes.get hli
          rw [e2]
          have hNd := HFn.out.nodes x (List.mem_of_getElem? hxn)
          have HNd := kp hNd; have HXn := kp hxn
          obtain ⟨kn, hkn⟩ : ∃ kn : Nat, x.kind = kn := ⟨x.kind.toNat, by have h : 0 ≤ x.kind := hNd.kind.1; omega⟩
          have HKn := kp hkn
          have hkI : I64 x.kind := hxok.kind
          have HNm : Kept ((if x.kind < 0 ∨ 9 < x.kind then [] else T.names.getD x.kind.toNat []) = T.name x.kind) := kp (name_ok hNd.kind.1 hNd.kind.2)
          clear hNd hxn hkn e2 hxok
          go_wp2_with (first
            | ((with_reducible show wpList _ _ _ (⟨some 11, _, _, _, _, _⟩ :: _) _ _); go_must (refine wpList_alloc_zero rfl 49 rfl (ndC ⟨0, 0, 0, 0⟩) tx_node_zero ?_); intro g11 w7 hg7 hk7 hw7; have HK7 := kp hk7; have HW7 := kp hw7; have hs7 := hw7.size; clear hk7 hw7)
            | ((with_reducible show wpList _ _ _ (⟨none, _, _, _, _, _⟩ :: _) _ _); go_must (refine wpList_store_blk rfl 49 (.tmp 11) (.tmp 39) rfl g11 (ndC x) rfl rfl _ _ HK7.out tx_node_size rfl (tx_node_ones _) ?_); intro w8 hk8 hg8 hs8
               have HK8 := kp hk8
               have HW8 : Kept (Below wr.heap.size wr w8) := kp (HW7.out.grown hg8 (by omega) (fun k e => by cases e; omega))
               have HE8 := kp (HE.out.on (HWq.out.trans (HW8.out.mono (by omega))))
               have hc8 : w8.cell? ⟨g11, 0, none⟩ = some (.int .i64 x.kind) := by rw [hk8.cell]; rfl
               clear hk8 hg8)
            | (go_at_call 14; go_must (refine (tx_name x.kind _ HE8.out hkI _ HNm.out).mono ?_); rintro e9 w9 ⟨rfl, hw9⟩; have hw9' := hw9.symm; subst hw9')
            | (go_at_call 27; go_must (refine (tx_told g11 0 kn _ (by rw [← HKn.out]; exact hc8)).mono ?_); rintro e9 w9 ⟨v3, rfl, hown3, hw3⟩
               have hr3 : Own w9 w8.heap.size 65 v3 (((T.tl kn).map (· + 1)).map (spotT g11)) := by
                 rw [List.map_map]
                 have e : (fldT g11 0) = (spotT g11 ∘ fun x => x + 1) := by funext j; unfold fldT spotT; simp
                 rw [← e]; exact hown3
               obtain ⟨A3, c3, hv3, _⟩ := hr3.readsN (n := (T.tl kn).length) (by simp)
               subst hv3
               have HR3 := kp hr3; have HW9 := kp hw3
               have HK9 := kp (HK8.out.below hw3 HK8.out.lt)
               have hs9 := hw3.size
               clear hown3 hr3 hw3 hc8)
            | (go_at_call 26; fail))
          have HB9 : Kept (SB w.heap.size bb (T.text (hd :: (T.linesL ((C.dataOf p).L.take f) ++ T.func :: (fn.nodes.take i).map T.ndL))) w9) := kp (sb_on HBq.out (HW8.out.trans (HW9.out.mono (by omega))))
          have hbb9 := sb_lt HBq.out
          refine (tx_printLine w.heap.size bb _ (T.name x.kind) g11 49 (ndC x) ((T.tl kn).map (· + 1)) ((T.tl kn).map fun j => (C.fld x j).toNat) A3 (T.tl kn).length c3 w9 HB9.out (by omega) (by simp) (T.tl_len kn) (by simp) (fun h0 => ?_) (fun _ => HK9.out) (by decide) (fun _ => by omega) (fun i j v hj hv => ?_) ?_ (by have := HTq.out; omega) (by have := name_len x.kind; omega)).mono ?_
          · obtain ⟨rq, cq, cur, hvq, hbq, _, _, _, htk, hrq⟩ := HR3.out.blk (by simpa using h0)
            simp only [List.length_map] at hvq htk
            injection hvq with e1 _ _
            exact ⟨rq, cur, e1, hbq, htk, by omega⟩
          · rw [List.getElem?_map] at hj hv
            cases hq : (T.tl kn)[i]? with
            | none => rw [hq] at hj; cases hj
            | some j0 =>
              rw [hq] at hj hv
              cases hj; cases hv
              have hj0 := T.tl_le kn j0 (List.mem_of_getElem? hq)
              show (ndC x)[j0 + 1]? = _
              rw [ndC_fld x hj0]
              have h9 : 0 ≤ C.fld x j0 := (HNd.out.fields j0 hj0).1
              show some (Value.int .i64 (C.fld x j0)) = some (.int .i64 (((C.fld x j0).toNat : Nat) : Int))
              rw [Int.toNat_of_nonneg h9]
          · have h9 := told_small HNd.out
            rw [HKn.out, Int.toNat_natCast] at h9
            exact h9
          rintro e w10 ⟨rfl, hb10, hw10, _⟩
          have HLine : Kept (T.lineOf (T.name x.kind) (((T.tl kn).map fun j => (C.fld x j).toNat).map fun v => ((v : Nat) : Int)) = T.ndL x) := kp (by
            have h9 := told_vals HNd.out
            rw [HKn.out, Int.toNat_natCast] at h9
            rw [h9]; rfl)
          rw [HLine.out] at hb10
          have HNx : Kept (T.text (hd :: (T.linesL ((C.dataOf p).L.take f) ++ T.func :: (fn.nodes.take (i + 1)).map T.ndL)) = T.text (hd :: (T.linesL ((C.dataOf p).L.take f) ++ T.func :: (fn.nodes.take i).map T.ndL)) ++ (T.ndL x ++ [10])) := kp (by
            rw [← text_snoc, List.take_add_one, HXn.out]; simp)
          have HB10 : Kept (SB w.heap.size bb (T.text (hd :: (T.linesL ((C.dataOf p).L.take f) ++ T.func :: (fn.nodes.take (i + 1)).map T.ndL))) w10) := kp (by rw [HNx.out]; exact hb10)
          have HT10 : Kept ((T.text (hd :: (T.linesL ((C.dataOf p).L.take f) ++ T.func :: (fn.nodes.take (i + 1)).map T.ndL))).length ≤ 200 + f * 2000 + (i + 1) * 25) := kp (by
            rw [HNx.out, List.length_append, List.length_append, List.length_singleton]
            have h1 := HTq.out
            have h2 := ndL_len HNd.out
            omega)
          have HW10 := kp ((HWq.out.trans ((HW8.out.trans (HW9.out.mono (by omega))).mono (by omega))).trans hw10)
          clear hb10 hw10
          go_wp2
          go_roundw
          case rel => exact ⟨i + 1, by omega, by go_num, HB10.out, HT10.out, HW10.out⟩
          case measure => simp [intOf]; omega
        · have hie : i = fn.len := by omega
          have HNx : Kept (T.linesL ((C.dataOf p).L.take (f + 1)) = T.linesL ((C.dataOf p).L.take f) ++ T.func :: (fn.nodes.take i).map T.ndL) := kp (by
            rw [List.take_add_one, HLf.out, hie, ← HNl.out, List.take_length]
            simp [T.linesL, T.fnL])
          have HBn : Kept (SB w.heap.size bb (T.text (hd :: T.linesL ((C.dataOf p).L.take (f + 1)))) wr) := kp (by rw [HNx.out]; exact HBq.out)
          have HTn : Kept ((T.text (hd :: T.linesL ((C.dataOf p).L.take (f + 1)))).length ≤ 100 + (f + 1) * 2000) := kp (by rw [HNx.out]; have := HTq.out; omega)
          go_wp2
          go_roundw
          case rel => exact ⟨f + 1, by omega, by go_num, HBn.out, HTn.out, HWq.out⟩
          case measure => simp [intOf]; omega
    · have hfe : f = p.len := by omega
      have HAll : Kept (T.text (hd :: T.linesL ((C.dataOf p).L.take f)) = T.print (C.dataOf p)) := kp (by
        have e : (C.dataOf p).L.length = f := by unfold C.dataOf; rw [List.length_map, HLen.out, hfe]
        rw [← e, List.take_length, ← HHd.out]; rfl)
      go_wp2_with fail
      refine (Tryd.Builder_String_any_k w.heap.size bb _ _ HBr.out (by omega)).mono ?_
      rintro e w9 ⟨rfl, _, hw9, _⟩
      rw [HAll.out]
      have HW9 := kp (HWr.out.trans hw9)
      clear hw9
      go_wp2
      go_ret2
      exact ⟨rfl, HW9.out⟩
end Go.Proofs.YtiojobajcnifpaaDoor
