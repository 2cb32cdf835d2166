/- ScriptMath, ScriptP1, ScriptP2, ScriptLaw1, in one text. -/
import Derived.Test.YtkhfolpffjihgaaPk26
import Derived.Test.YtkhfolpffjihgaaPk13
import Derived.Test.YtkhfolpffjihgaaPk12
import Derived.Test.YtkhfolpffjihgaaPk18
import Derived.Test.YtkhfolpffjihgaaPk15
namespace Go.Proofs.Ytkhfolpffjihgaa.M
def okP (x : Int × Bool) : Prop := 0 ≤ x.1 ∧ x.1 ≤ 7
def pb (x : Int × Bool) : Nat := x.1.toNat + (if x.2 then 8 else 0)
def bp (b : Nat) : Int × Bool := (((b % 8 : Nat) : Int), decide (7 < b))
theorem pb_lt {x : Int × Bool} (h : okP x) : pb x < 16 := by
  obtain ⟨h0, h7⟩ := h
  unfold pb
  split <;> omega
theorem pb_int {x : Int × Bool} (h : okP x) : ((pb x : Nat) : Int) = x.1 + (if x.2 then 8 else 0) := by
  obtain ⟨h0, h7⟩ := h
  unfold pb
  split <;> omega
theorem bp_ok (b : Nat) : okP (bp b) := by unfold okP bp; constructor <;> (simp only; omega)
theorem bp_pb {x : Int × Bool} (h : okP x) : bp (pb x) = x := by
  obtain ⟨h0, h7⟩ := h
  obtain ⟨a, b⟩ := x
  unfold bp pb
  simp only at h0 h7 ⊢
  cases b
  · simp only [Bool.false_eq_true, if_false, Nat.add_zero, Prod.mk.injEq, decide_eq_false_iff_not]
    omega
  · simp only [if_true, Prod.mk.injEq, decide_eq_true_eq]
    omega
theorem pb_bp {b : Nat} (h : b < 16) : pb (bp b) = b := by
  unfold pb bp
  by_cases h7 : 7 < b
  · simp only [h7, decide_true, if_true]; omega
  · simp only [h7, decide_false, Bool.false_eq_true, if_false]; omega
theorem bp_ones {l : List Nat} (h : ∀ b ∈ l, b < 16) : (l.map bp).map pb = l := by
  rw [List.map_map]
  have e : ∀ b ∈ l, (pb ∘ bp) b = b := fun b hb => pb_bp (h b hb)
  rw [List.map_congr_left e, List.map_id']
theorem pb_ones {l : List (Int × Bool)} (h : ∀ x ∈ l, okP x) : (l.map pb).map bp = l := by
  rw [List.map_map]
  have e : ∀ b ∈ l, (bp ∘ pb) b = b := fun b hb => bp_pb (h b hb)
  rw [List.map_congr_left e, List.map_id']
end Go.Proofs.Ytkhfolpffjihgaa.M
namespace Go.Proofs.Ytkhfolpffjihgaa
open Go.RowKit
set_option maxRecDepth 100000 in
set_option maxHeartbeats 800000 in
theorem sc_told (x : Int) (b : Bool) (h0 : 0 ≤ x) (h7 : x ≤ 7) (w : World) :
    Calls Try.prog 29 #[.agg #[.int .i64 x, .bool b]] w fun e w' => e = .returned (byteV (M.pb (x, b))) ∧ Below w.heap.size w w' := by
  have HE := kp (M.pb_int (x := (x, b)) ⟨h0, h7⟩)
  have h70 : ¬ x < 0 := by omega
  cases b with
  | true =>
    have HR : Kept (byteV (M.pb (x, true)) = .int .u8 (x + 8)) := kp (by unfold byteV; rw [HE.out]; rfl)
    rw [HR.out]
    go_enter Try.func29, Try.ntmps29
    go_wp2
    go_ret
    exact ⟨rfl, (Below.refl _ _).alloc (Nat.le_refl _) _⟩
  | false =>
    have HR : Kept (byteV (M.pb (x, false)) = .int .u8 x) := kp (by unfold byteV; rw [HE.out]; simp)
    rw [HR.out]
    go_enter Try.func29, Try.ntmps29
    go_wp2
    go_ret
    exact ⟨rfl, (Below.refl _ _).alloc (Nat.le_refl _) _⟩
def PutPost (n : Nat) (z : List (Int × Bool)) (w : World) : Ending → World → Prop := fun e w' =>
  (4096 < n ∧ e = .returned (.tuple #[.slice none 0 0, .int .i64 4]) ∨
   n ≤ 4096 ∧ (∃ x ∈ z, ¬ M.okP x) ∧ e = .returned (.tuple #[.slice none 0 0, .int .i64 1]) ∨
   n ≤ 4096 ∧ (∀ x ∈ z, M.okP x) ∧ ∃ g, e = .returned (.tuple #[.slice (some ⟨g, 0, none⟩) n n, .int .i64 0]) ∧ w.heap.size ≤ g ∧ Blk w' g 5 ((z.map M.pb).map byteV)) ∧ Below w.heap.size w w'
def putTo (z : List (Int × Bool)) (n i : Nat) : List Value := ((z.take i).map M.pb).map byteV ++ List.replicate (n - i) (byteV 0)
theorem putTo_len {z : List (Int × Bool)} {n i : Nat} (hz : z.length = n) (hi : i ≤ n) : (putTo z n i).length = n := by simp [putTo]; omega
theorem putTo_set {z : List (Int × Bool)} {n i : Nat} {x : Int × Bool} (hz : z.length = n) (hx : z[i]? = some x) : (putTo z n i).set i (byteV (M.pb x)) = putTo z n (i + 1) := by
  have hi : i < z.length := (List.getElem?_eq_some_iff.1 hx).1
  unfold putTo
  have e1 : (((z.take i).map M.pb).map byteV).length = i := by simp; omega
  rw [List.set_append_right _ _ (by omega), e1, Nat.sub_self, show n - i = (n - (i + 1)) + 1 by omega, List.replicate_succ, List.set_cons_zero, List.take_add_one, hx]
  simp
theorem putTo_all {z : List (Int × Bool)} {n : Nat} (hz : z.length = n) : putTo z n n = (z.map M.pb).map byteV := by
  unfold putTo
  rw [Nat.sub_self, List.take_of_length_le (by omega)]; simp
set_option maxRecDepth 100000 in
set_option maxHeartbeats 1600000 in
theorem sc_put (B : Nat) (A : Option Addr) (n c : Nat) (z : List (Int × Bool)) (w : World) (hp : Picks w B A n z) (hn : n ≤ 5000) (hB : B ≤ w.heap.size) :
    Calls Try.prog 10 #[.slice A n c] w (PutPost n z w) := by
  have HP := kp hp; have HLn := kp hp.1.len
  clear hp
  by_cases hbig : 4096 < n
  · go_enter Try.func10, Try.ntmps10
    go_wp2
    refine bodyPost_ret (results_tmp2 rfl _ _ _) rfl ?_; unfold PutPost
    exact ⟨.inl ⟨hbig, rfl⟩, Below.refl _ _⟩
  · have hsm : n ≤ 4096 := by omega
    clear hbig
    go_enter Try.func10, Try.ntmps10
    go_wp2_with (first
      | ((with_reducible show Sl 12); go_must (refine wpList_make_rep rfl 24 (.tmp 11) (.tmp 11) rfl 5 (.int .u8 0) (.int .u8 0) 1 1 Try.underlying24 xZ rfl (by omega) .i64 .i64 n n rfl rfl (Nat.le_refl _) (by omega) (by omega) ?_); intro gb w1 hgb hk1 hb1; have HG := kp hgb; have HK1 : Kept (Blk w1 gb 5 (putTo z n 0)) := kp (by unfold putTo; simpa [byteV] using hk1); have HB1 := kp hb1; have hs1 := hb1.size; clear hk1 hb1 hgb))
    go_loopw [15] (fun v15 wr => ∃ i : Nat, i ≤ n ∧ v15 = .int .i64 i ∧ Blk wr gb 5 (putTo z n i) ∧ (∀ (j : Nat) x, j < i → z[j]? = some x → M.okP x) ∧ Below w.heap.size w wr) (fun v15 _ => n - (intOf v15).toNat)
    case atStart => exact ⟨0, by omega, rfl, HK1.out, (fun _ _ h => by omega), HB1.out⟩
    case round =>
      obtain ⟨i, hi, rfl, hk, hbef, hbw⟩ := hrel
      have HK := kp hk; have HBef := kp hbef; have HBw := kp hbw; have hsz := hbw.size; have hlk := hk.lt
      have HPr := kp (HP.out.keep (w' := wr) fun p h => hbw.cell (by omega))
      clear hk hbef hbw
      by_cases hlt : i < n
      · obtain ⟨ad, x, rfl, hab, hx, h0, hc⟩ := HPr.out.1.field hlt
        have HX := kp hx
        have c0 := h0 (by omega); have c1 := hc 1 (by omega) (by omega)
        clear h0 hc hx
        obtain ⟨xw, xb⟩ := x
        replace c0 : wr.cell? (ad.add (i * 2)) = some (.int .i64 xw) := c0
        replace c1 : wr.cell? ⟨(ad.add (i * 2)).block, (ad.add (i * 2)).off + 1, none⟩ = some (.bool xb) := c1
        by_cases hlo : xw < 0
        · have HBad : Kept (∃ x ∈ z, ¬ M.okP x) := kp ⟨_, List.mem_of_getElem? HX.out, fun h => by have h1 := h.1; simp only at h1; omega⟩
          go_wp2
          refine bodyPost_ret (results_tmp2 rfl _ _ _) rfl ?_; unfold PutPost
          exact ⟨.inr (.inl ⟨hsm, HBad.out, rfl⟩), HBw.out.trans ((Below.refl _ _).alloc hsz _)⟩
        · by_cases hhi : 7 < xw
          · have HBad : Kept (∃ x ∈ z, ¬ M.okP x) := kp ⟨_, List.mem_of_getElem? HX.out, fun h => by have h1 := h.2; simp only at h1; omega⟩
            go_wp2
            refine bodyPost_ret (results_tmp2 rfl _ _ _) rfl ?_; unfold PutPost
            exact ⟨.inr (.inl ⟨hsm, HBad.out, rfl⟩), HBw.out.trans ((Below.refl _ _).alloc hsz _)⟩
          · have HOkx : Kept (M.okP (xw, xb)) := kp ⟨by show 0 ≤ xw; omega, by show xw ≤ 7; omega⟩
            go_wp2_with (go_at_call 29; fail)
            refine (sc_told xw xb HOkx.out.1 HOkx.out.2 _).mono ?_
            rintro e w2 ⟨rfl, hb2⟩
            have HB2 := kp (HBw.out.trans (((Below.refl _ _).alloc hsz _).trans (hb2.mono (by rw [World.size_alloc]; omega))))
            have HK2 := kp ((HK.out.alloc (.cells #[.int .i64 xw, .bool xb] 29)).below hb2 (by rw [World.size_alloc]; omega))
            have hs2 := HB2.out.size
            clear hb2
            go_wp2_with (first
              | ((with_reducible show Sn); go_must (refine j7 rfl 5 (.tmp 32) (.tmp 31) rfl gb i (byteV (M.pb (xw, xb))) rfl rfl rfl rfl _ _ HK2.out (by rw [putTo_len HLn.out hi]; exact hlt) size1b ?_); intro w3 hk3 hg3 hz3
                 rw [putTo_set HLn.out HX.out] at hk3
                 have HK3 := kp hk3; have HB3 := kp (HB2.out.grown hg3 hs2 (fun k e => by cases e; exact HG.out)); clear hk3 hg3 hz3))
            go_roundw
            case rel =>
              refine ⟨i + 1, by omega, by go_num, HK3.out, fun j y hj hy => ?_, HB3.out⟩
              by_cases e : j = i
              · subst e
                rw [HX.out] at hy
                cases hy
                exact HOkx.out
              · exact HBef.out j y (by omega) hy
            case measure => simp [intOf]; omega
      · have hge : n ≤ i := by omega
        clear hlt
        go_wp2
        refine bodyPost_ret (results_tmp2 rfl _ _ _) rfl ?_; unfold PutPost
        refine ⟨.inr (.inr ⟨hsm, fun x hx => ?_, gb, rfl, HG.out, ?_⟩), HBw.out⟩
        · obtain ⟨j, hj⟩ := List.getElem?_of_mem hx
          exact HBef.out j x (by have := (List.getElem?_eq_some_iff.1 hj).1; have := HLn.out; omega) hj
        · have e : i = n := by omega
          have := HK.out
          rw [e, putTo_all HLn.out] at this
          exact this
theorem vJ {P : Program} {ops : Array Oper} {rest : List Oper} {o : Oper} {a : Act} {w : World} {Q : Exit → Act → World → Prop} (hgd : o.guard = none) (ty : TypeId) (x y : Operand) (ho : o.op = .store ty x y)
    (g k : Nat) (u v : Value) (hx : a.eval x = .pointer (some ⟨g, k, none⟩)) (hy : a.eval y = .agg #[u, v]) (hu : u.oneCell' = true) (hv : v.oneCell' = true)
    (t : TypeId) (cs : List Value) (hg : Blk w g t cs) (hk : k + 1 < cs.length) (hi : (P.info? ty).map (·.size) = some 2)
    (h : ∀ w', Blk w' g t ((cs.set k u).set (k + 1) v) → w.grownBy w' (some g) → w'.heap.size = w.heap.size → wpList P ops Q rest (a.put o.dst undef) w') : wpList P ops Q (o :: rest) a w := by
  have e : w.setCells g k [u, v] = (w.setCell ⟨g, k, none⟩ u).setCell ⟨g, k + 1, none⟩ v := rfl
  refine wpList_store_mid hgd ty x y ho g k #[u, v] hx hy (fun j hj => ?_) hi (by simp [hu, hv]) ?_
  · have hj2 : j < 2 := hj
    refine ⟨?_, hg.frozen _⟩
    rw [hg.cell, List.getElem?_eq_getElem (by omega)]; rfl
  · show wpList P ops Q rest (a.put o.dst undef) (w.setCells g k [u, v])
    rw [e]
    exact h _ ((hg.set k u).set (k + 1) v) (xX (xX (xG _ _))) (by simp)
theorem vX : (Try.prog.info? 32).map (·.zero) = some (some (.agg [Value.int .i64 0, Value.int .i64 0].toArray)) := by kernel_rfl
theorem qH : (Try.prog.info? 32).map (·.size) = some 2 := by kernel_rfl
theorem yK (x y : Int) : ∀ u ∈ [Value.int .i64 x, .int .i64 y], u.oneCell' = true := by
  intro u hu
  simp only [List.mem_cons, List.not_mem_nil, or_false] at hu
  rcases hu with h | h <;> subst h <;> rfl
theorem zA : (Try.prog.info? 29).map (·.size) = some 2 := by kernel_rfl
theorem zB : (Try.prog.info? 29).map (fun i => (i.zero, i.size, i.bytes)) = some (some (.agg #[.int .i64 0, .bool false]), 2, 16) := by kernel_rfl
theorem made_picks (n : Nat) : madeCells #[.int .i64 0, .bool false] (n * 2) = (cellsR 2 pkV (List.replicate n ((0 : Int), false))).toArray := by
  have hl : (cellsR 2 pkV (List.replicate n ((0 : Int), false))).length = n * 2 := by rw [lP, List.length_replicate]
  apply Array.ext
  · simp [madeCells, hl]
  · intro k h1 h2
    have hk : k < n * 2 := by simpa [madeCells] using h1
    have h3 := lB 2 pkV (List.replicate n ((0 : Int), false)) (k / 2) (k % 2) (0, false) (by rw [List.getElem?_replicate, if_pos (by omega)]) (by omega)
    rw [show k / 2 * 2 + k % 2 = k by omega] at h3
    have h4 : (cellsR 2 pkV (List.replicate n ((0 : Int), false)))[k]'(by omega) = pkV (0, false) (k % 2) := by
      have h5 := List.getElem?_eq_getElem (l := cellsR 2 pkV (List.replicate n ((0 : Int), false))) (i := k) (by omega)
      rw [h5] at h3
      exact Option.some.inj h3
    refine Eq.trans ?_ h4.symm
    have h01 : k % 2 = 0 ∨ k % 2 = 1 := by omega
    rcases h01 with h | h
    · simp [madeCells, h, pkV]
    · simp [madeCells, h, pkV]
theorem vK {ops : Array Oper} {rest : List Oper} {o : Oper} {a : Act} {w : World} {Q : Exit → Act → World → Prop} (hgd : o.guard = none) (l c : Operand) (ho : o.op = .makeSlice 22 l c)
    (n : Nat) (hl : a.eval l = .int .i64 (n : Int)) (hc : a.eval c = .int .i64 (n : Int)) (hn : n ≤ 1000000)
    (h : ∀ g w', w.heap.size ≤ g → Blk w' g 29 (cellsR 2 pkV (List.replicate n ((0 : Int), false))) → Below w.heap.size w w' → wpList Try.prog ops Q rest (a.put o.dst (.slice (some ⟨g, 0, none⟩) n n)) w') : wpList Try.prog ops Q (o :: rest) a w := by
  refine wpList_plain hgd fun K hK => ?_
  obtain ⟨i, hi0, hzz⟩ := Option.map_eq_some_iff.1 zB
  simp only [Prod.mk.injEq] at hzz
  obtain ⟨hz, hs, hbb⟩ := hzz
  have hb' : (i.bytes : Int) * (n : Int) ≤ 281474976710656 := by
    have h : ((i.bytes * n : Nat) : Int) ≤ 281474976710656 := by rw [hbb]; omega
    rwa [Int.natCast_mul] at h
  have hr := run_make (P := Try.prog) w 22 29 i _ Try.underlying22 hi0 hz .i64 .i64 n n (by omega) (by omega) hb' (by omega)
  simp only [Int.toNat_natCast, hs] at hr
  unfold Oper.wp
  simp [execOp, ho, hl, hc, hr, Result.andThen]
  exact hK _ _ (h _ _ (Nat.le_refl _) (Blk.newAt (made_picks n) rfl) ((Below.refl _ _).alloc (Nat.le_refl _) _))
theorem xP {P : Program} {fn : Func} {p : Tmp} {a : Nat} {ty : TypeId} (h : fn.results = #[.tmp a, .cell p ty]) (tmps : Array Value) (w : World) (g : Nat) (t : TypeId) (cs : List Value) (d : TypeDesc) (va : Value)
    (hp : tmps.getD p undef = .pointer (some ⟨g, 0, none⟩)) (ha : tmps.getD a undef = va) (hg : Blk w g t cs)
    (hu : P.underlying ty = some d) (hd : (match d with | .struct _ | .array _ _ => true | _ => false) = true) (hi : (P.info? ty).map (·.size) = some cs.length) :
    (results fn tmps).run P w = .ok (.tuple #[va, .agg cs.toArray]) w := by
  subst ha
  have hp' : tmps[p]?.getD undef = .pointer (some ⟨g, 0, none⟩) := by simpa using hp
  simp [results, h, hp', asAddr, run_loadVar_row w g t ty cs.toArray (0, 0) d hg hu hd (by simpa using hi)]
def GetPost (n : Nat) (bs : List Nat) (w : World) : Ending → World → Prop := fun e w' =>
  (4096 < n ∧ e = .returned (.tuple #[.slice none 0 0, .agg #[.int .i64 0, .int .i64 4]]) ∨
   n ≤ 4096 ∧ (∃ (i : Nat) (b : Nat), bs[i]? = some b ∧ 16 ≤ b ∧ (∀ (j : Nat) (c : Nat), j < i → bs[j]? = some c → c < 16) ∧ e = .returned (.tuple #[.slice none 0 0, .agg #[.int .i64 (i : Int), .int .i64 3]])) ∨
   n ≤ 4096 ∧ (∀ b ∈ bs, b < 16) ∧ ∃ g, e = .returned (.tuple #[.slice (some ⟨g, 0, none⟩) n n, .agg #[.int .i64 0, .int .i64 0]]) ∧ w.heap.size ≤ g ∧ Blk w' g 29 (cellsR 2 pkV (bs.map M.bp))) ∧ Below w.heap.size w w'
def getTo (bs : List Nat) (n i : Nat) : List Value := cellsR 2 pkV ((bs.take i).map M.bp ++ List.replicate (n - i) (0, false))
theorem getTo_len {bs : List Nat} {n i : Nat} (hz : bs.length = n) (hi : i ≤ n) : (getTo bs n i).length = n * 2 := by unfold getTo; rw [lP]; simp; omega
theorem getTo_zero (bs : List Nat) (n : Nat) : getTo bs n 0 = cellsR 2 pkV (List.replicate n ((0 : Int), false)) := by simp [getTo]
theorem cells2_at {l : List (Int × Bool)} {i : Nat} {x y : Int × Bool} (hx : l[i]? = some x) : ((cellsR 2 pkV l).set (i * 2) (.int .i64 y.1)).set (i * 2 + 1) (.bool y.2) = cellsR 2 pkV (l.set i y) := by
  have hl : i < l.length := (List.getElem?_eq_some_iff.1 hx).1
  obtain ⟨y0, y1⟩ := y
  rw [show l.set i (y0, y1) = (l.set i (y0, x.2)).set i (y0, y1) by rw [List.set_set]]
  rw [zO (sz := 2) (f := pkV) (j := 1) (x := (y0, x.2)) (x' := (y0, y1)) (v := .bool y1) (by rw [List.getElem?_set_self hl]) (by omega) (fun j hj => ?_)]
  · rw [zO (sz := 2) (f := pkV) (j := 0) (x := x) (x' := (y0, x.2)) (v := .int .i64 y0) hx (by omega) (fun j hj => ?_)]
    · rfl
    · match j, hj with
      | 0, _ => rfl
      | 1, _ => rfl
  · match j, hj with
    | 0, _ => rfl
    | 1, _ => rfl
theorem getTo_set {bs : List Nat} {n i b : Nat} (hz : bs.length = n) (hx : bs[i]? = some b) : ((getTo bs n i).set (i * 2) (.int .i64 ((b % 8 : Nat) : Int))).set (i * 2 + 1) (.bool (decide (7 < b))) = getTo bs n (i + 1) := by
  have hi : i < bs.length := (List.getElem?_eq_some_iff.1 hx).1
  have e1 : ((bs.take i).map M.bp).length = i := by simp; omega
  have h0 : ((bs.take i).map M.bp ++ List.replicate (n - i) ((0 : Int), false))[i]? = some (0, false) := by
    rw [List.getElem?_append_right (by omega), e1, Nat.sub_self, List.getElem?_replicate, if_pos (by omega)]
  have := cells2_at (y := M.bp b) h0
  unfold getTo
  refine this.trans ?_
  congr 1
  rw [List.set_append_right _ _ (by omega), e1, Nat.sub_self, show n - i = (n - (i + 1)) + 1 by omega, List.replicate_succ, List.set_cons_zero, List.take_add_one, hx]
  simp
theorem getTo_all {bs : List Nat} {n : Nat} (hz : bs.length = n) : getTo bs n n = cellsR 2 pkV (bs.map M.bp) := by
  unfold getTo
  rw [Nat.sub_self, List.take_of_length_le (by omega)]; simp
set_option maxRecDepth 100000 in
set_option maxHeartbeats 1600000 in
theorem sc_get (B : Nat) (A : Option Addr) (n c : Nat) (bs : List Nat) (w : World) (hp : Row byteV w B A n bs) (hb : ∀ x ∈ bs, x < 256) (hn : n ≤ 5000) (hB : B ≤ w.heap.size) :
    Calls Try.prog 11 #[.slice A n c] w (GetPost n bs w) := by
  have HP := kp hp; have HLn := kp hp.len; have H256 := kp hb
  clear hp hb
  by_cases hbig : 4096 < n
  · go_enter Try.func11, Try.ntmps11
    go_wp2_with (first
      | ((with_reducible show Sl 3); go_must (refine j3 rfl 32 rfl _ vX ?_); intro gs w1 hgs hk1 hw1; have HGs := kp hgs; have HK1 := kp hk1; have HB1 := kp hw1; have hs1 := hw1.size; clear hk1 hw1 hgs)
      | ((with_reducible show Sn); go_must (refine j4 rfl 32 (.tmp 3) (.tmp 10) rfl gs [.int .i64 0, .int .i64 4] rfl rfl _ _ HK1.out qH rfl (yK 0 4) ?_); intro w2 hk2 hg2 hz2; have HK2 := kp hk2; have HB2 := kp (HB1.out.grown hg2 hs1 (fun k e => by cases e; exact HGs.out)); clear hk2 hg2 hz2)
      | ((with_reducible show bodyPost _ _ _ _ _ _); exact bodyPost_ret (xP (P := Try.prog) (fn := Try.f11) rfl _ _ gs 32 _ _ _ rfl rfl HK2.out Try.underlying32 rfl qH) rfl ⟨.inl ⟨hbig, rfl⟩, HB2.out⟩))
  · have hsm : n ≤ 4096 := by omega
    clear hbig
    go_enter Try.func11, Try.ntmps11
    go_wp2_with (first
      | ((with_reducible show Sl 3); go_must (refine j3 rfl 32 rfl _ vX ?_); intro gs w1 hgs hk1 hw1; have HGs := kp hgs; have HK1 := kp hk1; have HB1 := kp hw1; have hs1 := hw1.size; have hl1 := hk1.lt; clear hk1 hw1 hgs)
      | ((with_reducible show Sl 13); go_must (refine vK rfl (.tmp 12) (.tmp 12) rfl n rfl rfl (by omega) ?_); intro gb w2 hgb hk2 hb2; have HGb : Kept (w.heap.size ≤ gb ∧ gb ≠ gs) := kp ⟨by omega, by omega⟩; have HK2 : Kept (Blk w2 gb 29 (getTo bs n 0)) := kp (by rw [getTo_zero]; exact hk2); have HS2 := kp (HK1.out.below hb2 hl1); have HB2 := kp (HB1.out.trans (hb2.mono hs1)); have hs2 := HB2.out.size; clear hk2 hb2 hgb))
    go_loopw [16] (fun v16 wr => ∃ i : Nat, i ≤ n ∧ v16 = .int .i64 i ∧ Blk wr gb 29 (getTo bs n i) ∧ Blk wr gs 32 [.int .i64 0, .int .i64 0] ∧ (∀ (j : Nat) x, j < i → bs[j]? = some x → x < 16) ∧ Below w.heap.size w wr) (fun v16 _ => n - (intOf v16).toNat)
    case atStart => exact ⟨0, by omega, rfl, HK2.out, HS2.out, (fun _ _ h => by omega), HB2.out⟩
    case round =>
      obtain ⟨i, hi, rfl, hk, hks, hbef, hbw⟩ := hrel
      have HK := kp hk; have HS := kp hks; have HBef := kp hbef; have HBw := kp hbw; have hsz := hbw.size
      have HPr := kp (HP.out.keep (w' := wr) fun p h => hbw.cell (by omega))
      clear hk hks hbef hbw
      by_cases hlt : i < n
      · obtain ⟨ad, b, rfl, hab, hx, c0⟩ := HPr.out.get hlt
        have HX := kp hx
        have hb256 : b < 256 := H256.out b (List.mem_of_getElem? hx)
        replace c0 : wr.cell? (ad.add i) = some (.int .u8 (b : Int)) := c0
        clear hx
        by_cases hbad : 16 ≤ b
        · have HBad := kp hbad
          go_wp2_with (first
            | ((with_reducible show Sn); go_must (refine j4 rfl 32 (.tmp 3) (.tmp 24) rfl gs [.int .i64 i, .int .i64 3] rfl rfl _ _ HS.out qH rfl (yK i 3) ?_); intro w3 hk3 hg3 hz3; have HK3 := kp hk3; have HB3 := kp (HBw.out.grown hg3 hsz (fun k e => by cases e; exact HGs.out)); clear hk3 hg3 hz3)
            | ((with_reducible show bodyPost _ _ _ _ _ _); exact bodyPost_ret (xP (P := Try.prog) (fn := Try.f11) rfl _ _ gs 32 _ _ _ rfl rfl HK3.out Try.underlying32 rfl qH) rfl ⟨.inr (.inl ⟨hsm, i, b, HX.out, HBad.out, HBef.out, rfl⟩), HB3.out⟩))
        · have HOk : Kept (b < 16) := kp (by omega)
          have hd7 : decide (8 ≤ (b : Int)) = decide (7 < b) := by rw [decide_eq_decide]; omega
          go_wp2_with (first
            | ((with_reducible show Sn); go_must (refine vJ rfl 29 (.tmp 33) (.tmp 32) rfl gb (i * 2) (.int .i64 ((b % 8 : Nat) : Int)) (.bool (decide (7 < b))) rfl rfl rfl rfl _ _ HK.out (by rw [getTo_len HLn.out hi]; omega) zA ?_); intro w3 hk3 hg3 hz3
               rw [getTo_set HLn.out HX.out] at hk3
               have HK3 := kp hk3; have HS3 := kp (HS.out.grown hg3 (fun e => by cases e; exact HGb.out.2 rfl)); have HB3 := kp (HBw.out.grown hg3 hsz (fun k e => by cases e; exact HGb.out.1)); clear hk3 hg3 hz3))
          go_roundw
          case rel =>
            refine ⟨i + 1, by omega, by go_num, HK3.out, HS3.out, fun j y hj hy => ?_, HB3.out⟩
            by_cases e : j = i
            · subst e
              rw [HX.out] at hy
              cases hy
              exact HOk.out
            · exact HBef.out j y (by omega) hy
          case measure => simp [intOf]; omega
      · have hge : n ≤ i := by omega
        clear hlt
        go_wp2_with (first
          | ((with_reducible show Sn); go_must (refine j4 rfl 32 (.tmp 3) (.tmp 36) rfl gs [.int .i64 0, .int .i64 0] rfl rfl _ _ HS.out qH rfl (yK 0 0) ?_); intro w3 hk3 hg3 hz3; have HK3 := kp hk3; have HB3 := kp (HBw.out.grown hg3 hsz (fun k e => by cases e; exact HGs.out)); have HR3 := kp (HK.out.grown hg3 (fun e => by cases e; exact HGb.out.2 rfl)); clear hk3 hg3 hz3)
          | ((with_reducible show bodyPost _ _ _ _ _ _)
             have e : i = n := by omega
             have hr := HR3.out
             rw [e, getTo_all HLn.out] at hr
             exact bodyPost_ret (xP (P := Try.prog) (fn := Try.f11) rfl _ _ gs 32 _ _ _ rfl rfl HK3.out Try.underlying32 rfl qH) rfl ⟨.inr (.inr ⟨hsm, fun b hb => by
               obtain ⟨j, hj⟩ := List.getElem?_of_mem hb
               exact HBef.out j b (by have := (List.getElem?_eq_some_iff.1 hj).1; have := HLn.out; omega) hj, gb, rfl, HGb.out.1, hr⟩), HB3.out⟩))
theorem Blk.recs {α : Type} {sz : Nat} {f : α → Nat → Value} {w : World} {g n B : Nat} {t : TypeId} {l : List α} (h : Blk w g t (cellsR sz f l)) (hn : l.length = n) (hB : w.heap.size ≤ B) : Recs sz f w B (some ⟨g, 0, none⟩) n l :=
  ⟨hn, fun _ => ⟨_, rfl, Nat.lt_of_lt_of_le h.lt hB, fun k x hx j hj => by
    have hadd : (⟨g, 0, none⟩ : Addr).add (k * sz + j) = ⟨g, k * sz + j, none⟩ := by unfold Addr.add; split <;> simp_all
    rw [hadd, h.cell, lB sz f l k j x hx hj]⟩⟩
theorem Blk.picks {w : World} {g n B : Nat} {t : TypeId} {l : List (Int × Bool)} (h : Blk w g t (cellsR 2 pkV l)) (hn : l.length = n) (hB : w.heap.size ≤ B) (hl : ∀ x ∈ l, I64 x.1) : Picks w B (some ⟨g, 0, none⟩) n l := ⟨h.recs hn hB, hl⟩
theorem Picks.more {w : World} {B B2 : Nat} {A : Option Addr} {n : Nat} {l : List (Int × Bool)} (h : Picks w B A n l) (hB : B ≤ B2) : Picks w B2 A n l := ⟨h.1.more hB, h.2⟩
theorem Picks.below {w w' : World} {B : Nat} {A : Option Addr} {n : Nat} {l : List (Int × Bool)} (h : Picks w B A n l) (hb : Below B w w') : Picks w' B A n l := h.keep fun _ hp => hb.cell hp
theorem xV {w : World} {B n c : Nat} {A : Option Addr} {bs : List Nat} (h : Row byteV w B A n bs) : (convert 24 9 (.slice A n c)).run Try.prog w = .ok (.string (strOf bs)) w :=
  run_string h 24 5 9 c Try.underlying24 Try.underlying5 Try.underlying9
theorem strOf_list11 (bs : List Nat) : (strOf bs).toList = bs.map UInt8.ofNat := by unfold strOf; rw [ByteArray.toList_mk]
set_option maxRecDepth 100000 in
set_option maxHeartbeats 1600000 in
theorem lH (w : World) : Calls Try.prog 9 #[] w fun e w' => e = .returned (.bool true) ∧ Below w.heap.size w w' := by
  go_enter Try.func9, Try.ntmps9
  go_wp2_with (go_at_call 11; fail)
  refine (sc_get _ _ 1 1 [9] _ (Row.made byteV w [9] #[.int .u8 9] rfl 5) (by decide) (by omega) (Nat.le_refl _)).mono ?_
  rintro e w1 ⟨h | h | h, hb1⟩
  · obtain ⟨h, _⟩ := h; omega
  · obtain ⟨_, i, b, hi, hb, _, _⟩ := h
    have : i = 0 := by have := (List.getElem?_eq_some_iff.1 hi).1; simp at this; omega
    subst this
    simp at hi
    omega
  obtain ⟨_, _, g, rfl, hg, hk⟩ := h
  have HB1 := kp ((((Below.refl _ w).alloc (Nat.le_refl _) _).trans (hb1.mono (by rw [World.size_alloc]; omega)) : Below w.heap.size w w1))
  have HK1 : Kept (Blk w1 g 29 [.int .i64 1, .bool true]) := kp hk
  have HG : Kept (w.heap.size ≤ g) := kp (by rw [World.size_alloc] at hg; omega)
  have hl1 := hk.lt
  clear hb1 hk hg
  have hs1 := HB1.out.size
  go_wp2_with (go_at_call 10; fail)
  obtain ⟨W2, hW2⟩ : ∃ W, w1.alloc (.cells #[.int .i64 0, .int .i64 0] 32) = W := ⟨_, rfl⟩
  have HB2 : Kept (Below w.heap.size w W2) := kp (by rw [← hW2]; exact HB1.out.alloc hs1 _)
  have HK2 : Kept (Blk W2 g 29 [.int .i64 1, .bool true]) := kp (by rw [← hW2]; exact HK1.out.alloc _)
  have HS2 : Kept (Blk W2 w1.heap.size 32 [.int .i64 0, .int .i64 0]) := kp (by rw [← hW2]; exact Blk.newAt rfl rfl)
  have hz2 : W2.heap.size = w1.heap.size + 1 := by rw [← hW2, World.size_alloc]
  rw [hW2, show w1.heap.size + 1 = W2.heap.size from hz2.symm]
  have HZ2 := kp hz2
  clear hW2 hz2
  refine (sc_put _ _ 1 1 [(1, true)] _ (Blk.picks (Blk.newAt (t := 29) (cs := cellsR 2 pkV [(1, true)]) rfl rfl) rfl (Nat.le_refl _) (by intro x hx; rw [List.mem_singleton] at hx; subst hx; unfold I64; decide)) (by omega) (Nat.le_refl _)).mono ?_
  rintro e w3 ⟨h | h | h, hb3⟩
  · obtain ⟨h, _⟩ := h; omega
  · obtain ⟨_, ⟨x, hx, hno⟩, _⟩ := h
    rw [List.mem_singleton] at hx
    subst hx
    exact absurd (show M.okP (1, true) from ⟨by decide, by decide⟩) hno
  obtain ⟨_, _, g3, rfl, hg3, hk3⟩ := h
  have hs2 := HB2.out.size
  have HB3 := kp ((HB2.out.alloc hs2 (.cells #[.int .i64 1, .bool true] 29)).trans (hb3.mono (by rw [World.size_alloc]; omega)))
  have hK2 := (HK2.out.alloc (.cells #[.int .i64 1, .bool true] 29)).below hb3 (by rw [World.size_alloc]; have := HK2.out.lt; omega)
  have hS2 := (HS2.out.alloc (.cells #[.int .i64 1, .bool true] 29)).below hb3 (by rw [World.size_alloc]; have := HS2.out.lt; omega)
  have hrow := xV (n := 1) (c := 1) (Blk.row (f := byteV) (l := [9]) hk3 rfl (Nat.le_refl _))
  have hs9 : ((strOf [9]).toList == ([9] : List UInt8)) = true := by rw [strOf_list11]; rfl
  have c0 := hK2.cell 0; have c1 := hK2.cell 1
  have d0 := hS2.cell 0; have d1 := hS2.cell 1
  clear hb3 hk3 hg3 hK2 hS2
  go_wp2
  go_ret
  exact ⟨rfl, HB3.out⟩
end Go.Proofs.Ytkhfolpffjihgaa
