/- Bytes read as a program, as the document has it, walked: Read. -/
import Derived.Test.YtdnhfpphjpnklaaPk13
import Derived.Test.YtdnhfpphjpnklaaPcodeP7
import Derived.Test.YtdnhfpphjpnklaaPk12
namespace Go.Proofs.Ytdnhfpphjpnklaa
open Go.RowKit

/-- What a function hands back that keeps its first result in a block. -/
theorem results_blk3 {P : Program} {fn : Func} {p : Tmp} {a b : Nat} {ty : TypeId} (h : fn.results = #[.cell p ty, .tmp a, .tmp b]) (tmps : Array Value) (w : World) (g : Nat) (t : TypeId) (cs : List Value) (d : TypeDesc) (va vb : Value)
    (hp : tmps.getD p undef = .pointer (some ⟨g, 0, none⟩)) (ha : tmps.getD a undef = va) (hb : tmps.getD b undef = vb) (hg : Blk w g t cs)
    (hu : P.underlying ty = some d) (hd : (match d with | .struct _ | .array _ _ => true | _ => false) = true) (hi : (P.info? ty).map (·.size) = some cs.length) :
    (results fn tmps).run P w = .ok (.tuple #[.agg cs.toArray, va, vb]) w := by
  subst ha
  subst hb
  have hp' : tmps[p]?.getD undef = .pointer (some ⟨g, 0, none⟩) := by simpa using hp
  simp [results, h, hp', asAddr, run_loadVar_row w g t ty cs.toArray (0, 0) d hg hu hd (by simpa using hi)]
/-- What the document's Read hands back. -/
def RefPost (w : World) (d : C.PD) (at_ why : Nat) : Ending → World → Prop := fun e w' => ∃ p : Pg, e = .returned (.tuple #[pgA p, .int .i64 (at_ : Int), .int .i64 (why : Int)]) ∧ p.Ok w' w'.heap.size ∧ C.dataOf p = d ∧ Below w.heap.size w w'
theorem rd_size : (Try.prog.info? 53).map (·.size) = some 4 := by kernel_rfl
/-- A function whose nodes the call made, beside the row of functions v. -/
structure FnR (W : World) (B : Nat) (v : Value) (fn : Fn) : Prop where
  own : OwnR 4 ndV W B 42 (fnV fn) fn.nodes
  ne : (fnV fn).ownBlock = none ∨ (fnV fn).ownBlock ≠ v.ownBlock
  le : fn.nodes.length ≤ 64
  ok : ∀ x ∈ fn.nodes, x.Ok
theorem FnR.ok_ {W : World} {B : Nat} {v : Value} {fn : Fn} (h : FnR W B v fn) : fn.Ok W W.heap.size := by
  have ho := h.own
  obtain ⟨A, cap, e, h1, h2, h3⟩ := ho.form
  have e' : fnV fn = .slice fn.A fn.len fn.cap := rfl
  rw [e'] at e
  injection e with e1 e2 e3
  refine ⟨⟨by rw [e1, e2]; exact h3, h.ok⟩, by rw [e2, e3]; exact h1, by rw [e3]; exact h2, fun hn => ?_⟩
  rcases ho.2 with ⟨hv, h0⟩ | ⟨g, c, cur, hv, _⟩
  · rw [e'] at hv
    injection hv with _ _ hc
  · rw [e'] at hv
    injection hv with ha _ _
    rw [hn] at ha
    cases ha
theorem FnR.keep {W W' : World} {B : Nat} {v : Value} {fn : Fn} {row : Option Nat} (h : FnR W B v fn) (hg : W.grownBy W' row) (hne : ∀ k, row = some k → k < B) : FnR W' B v fn :=
  ⟨h.own.far hg (by
    cases hv : (fnV fn).ownBlock with
    | none => exact .inl rfl
    | some k =>
      refine .inr fun e => ?_
      have h1 := (h.own.block k hv).1
      have h2 := hne k e.symm
      omega), h.ne, h.le, h.ok⟩
/-- The row of functions grows. -/
theorem FnR.grew {W W' : World} {B : Nat} {v v' : Value} {fn : Fn} (h : FnR W B v fn) (hg : Grew W W' v v') : FnR W' B v' fn :=
  ⟨h.own.far hg.1 h.ne, by
    rcases hg.2 with e | e
    · rw [e]; exact h.ne
    · cases hv : (fnV fn).ownBlock with
      | none => exact .inl rfl
      | some k =>
        refine .inr fun e2 => ?_
        have h1 := (h.own.block k hv).2
        have h2 := e k e2.symm
        omega, h.le, h.ok⟩
theorem ownBlock_ne {v : Value} {g : Nat} (h : ∀ k, v.ownBlock = some k → k ≠ g) : v.ownBlock = none ∨ v.ownBlock ≠ some g := by
  cases hv : v.ownBlock with
  | none => exact .inl rfl
  | some k => exact .inr fun e => h k hv (by cases e; rfl)
theorem ownBlock_ne' {v v' : Value} (h : ∀ k, v.ownBlock = some k → v'.ownBlock = some k → False) : v.ownBlock = none ∨ v.ownBlock ≠ v'.ownBlock := by
  cases hv : v.ownBlock with
  | none => exact .inl rfl
  | some k => exact .inr fun e => h k hv e.symm
theorem OwnR.less {α : Type} {sz : Nat} {f : α → Nat → Value} {w : World} {B B' : Nat} {e : TypeId} {v : Value} {l : List α} (h : OwnR sz f w B e v l) (hB : B' ≤ B) : OwnR sz f w B' e v l := by
  rcases h.2 with ⟨h1, h0⟩ | ⟨g, cap, cur, hv, hB1, hg, hn, hm, hs, ht⟩
  · exact ⟨h.1, .inl ⟨h1, h0⟩⟩
  · exact ⟨h.1, .inr ⟨g, cap, cur, hv, by omega, hg, hn, hm, hs, ht⟩⟩
theorem OwnR.heldAt {α : Type} {sz : Nat} {f : α → Nat → Value} {S : Nat → Prop} {w w' : World} {B : Nat} {e : TypeId} {v : Value} {l : List α} (h : OwnR sz f w B e v l) (hb : Held S w w') (hS : ∀ k, v.ownBlock = some k → S k) : OwnR sz f w' B e v l := by
  rcases h.2 with ⟨h1, h0⟩ | ⟨g, cap, cur, hv, hB1, hg, hn, hm, hs, ht⟩
  · exact ⟨h.1, .inl ⟨h1, h0⟩⟩
  · exact ⟨h.1, .inr ⟨g, cap, cur, hv, hB1, by rw [hb.block g (hS g (by rw [hv]; rfl))]; exact hg, hn, hm, hs, ht⟩⟩
theorem FnR.held {S : Nat → Prop} {W W' : World} {B : Nat} {v : Value} {fn : Fn} (h : FnR W B v fn) (hb : Held S W W') (hS : ∀ k, B ≤ k → k < W.heap.size → S k) : FnR W' B v fn :=
  ⟨h.own.heldAt hb fun k hk => hS k (h.own.block k hk).1 (h.own.block k hk).2, h.ne, h.le, h.ok⟩
theorem grown_grew {w w1 w2 : World} {row : Option Nat} {v v' : Value} (h : w.grownBy w1 row) (k : Grew w1 w2 v v') (hg : ∀ g, v.ownBlock = some g → w.heap.size ≤ g) : w.grownBy w2 row :=
  ⟨k.1.os.trans h.os, k.1.tape.trans h.tape, k.1.output.trans h.output, Nat.le_trans h.size k.1.size, fun i hi hne => (k.1.block i (Nat.lt_of_lt_of_le hi h.size) (by intro e; have := hg i e.symm; omega)).trans (h.block i hi hne)⟩
theorem fns_next {bs : List Nat} {m f : Nat} {L : List (List Nd)} {t tb t' s2 : R.St} {l lf : List Nd} {dL : List (List Nd)} (hlt : f < m) (hfn : C.rdFn bs t = (lf, tb)) (h1 : (C.rdFns bs (m - f) L t).2 = s2)
    (h2 : s2.why = 0 → (C.rdFns bs (m - f) L t).1 = dL) (ht : t' = tb) (hl : tb.why = 0 → l = lf) : (C.rdFns bs (m - (f + 1)) (L ++ [l]) t').2 = s2 ∧ (s2.why = 0 → (C.rdFns bs (m - (f + 1)) (L ++ [l]) t').1 = dL) := by
  subst ht
  have e : C.rdFns bs (m - f) L t = C.rdFns bs (m - (f + 1)) (L ++ [lf]) t' := by
    rw [show m - f = (m - (f + 1)) + 1 by omega]
    conv => lhs; unfold C.rdFns
    rw [hfn]
  rw [e] at h1 h2
  by_cases hw : t'.why = 0
  · rw [hl hw]
    exact ⟨h1, h2⟩
  · have k1 := C.rdFns_keeps (P := fun s => s = t') (C.stays_num bs t' hw) (m - (f + 1)) (L ++ [lf]) t' rfl
    have k2 := C.rdFns_keeps (P := fun s => s = t') (C.stays_num bs t' hw) (m - (f + 1)) (L ++ [l]) t' rfl
    rw [k1] at h1
    exact ⟨by rw [k2, ← h1], fun h0 => absurd (by rw [h1]; exact h0) hw⟩
theorem node_one (x : Nd) (j : Nat) : (ndV x j).oneCell' = true := by
  unfold ndV; split <;> rfl
theorem fnV_one (f : Fn) : (fnV f).oneCell' = true := rfl
theorem only_grown {G : Nat → Prop} {w w1 w2 : World} {g : Nat} (h : Only G w w1) (k : w1.grownBy w2 (some g)) (hg : G g ∨ w.heap.size ≤ g) : Only G w w2 :=
  ⟨k.os.trans h.os, k.tape.trans h.tape, k.output.trans h.output, Nat.le_trans h.size k.size, fun i hi hn => (k.block i (Nat.lt_of_lt_of_le hi h.size) (by
    intro e
    cases e
    rcases hg with hg | hg
    · exact hn hg
    · omega)).trans (h.block i hi hn)⟩
theorem only_grew {G : Nat → Prop} {w w1 w2 : World} {v v' : Value} (h : Only G w w1) (k : Grew w1 w2 v v') (hg : ∀ g, v.ownBlock = some g → w.heap.size ≤ g) : Only G w w2 :=
  ⟨k.1.os.trans h.os, k.1.tape.trans h.tape, k.1.output.trans h.output, Nat.le_trans h.size k.1.size, fun i hi hn => (k.1.block i (Nat.lt_of_lt_of_le hi h.size) (by
    intro e
    have := hg i e.symm
    omega)).trans (h.block i hi hn)⟩

set_option maxRecDepth 1000000 in
set_option maxHeartbeats 16000000 in
/-- More bytes than may be. -/
theorem ref_read_long (A : Option Addr) (n c : Nat) (bs : List Nat) (w : World) (hr : Row byteV w w.heap.size A n bs) (hn : 65536 < n) (hm : n ≤ maxLen) :
    Calls Try.prog 9 #[.slice A n c] w (RefPost w C.none_ 0 4) := by
  unfold RefPost
  have HR := kp hr
  unfold maxLen at hm
  clear hr
  go_enter Try.func9, Try.ntmps9
  go_wp2_with (first
    | ((with_reducible show wpList _ _ _ (⟨some 2, _, _, _, _, _⟩ :: _) _ _); go_must (refine wpList_alloc_zero rfl 26 rfl _ pcp_zero ?_); intro gr w1 hgr hk1 hw1; have HKa1 := kp hk1; have HW1 := kp hw1; have hs1 := hw1.size; have hl1 := hk1.lt; clear hk1 hw1)
    | ((with_reducible show wpList _ _ _ (⟨some 5, _, _, _, _, _⟩ :: _) _ _); go_must (refine wpList_alloc_zero rfl 26 rfl _ pcp_zero ?_); intro g5 w2 hg5 hk2 hw2
       have HKb2 := kp hk2; have HKa2 := kp (HKa1.out.below hw2 hl1); have HW2 := kp (HW1.out.trans (hw2.mono hs1)); have hs2 := hw2.size; have hl2 := hk2.lt
       clear hk2 hw2)
    | ((with_reducible show wpList _ _ _ (⟨none, _, _, _, _, _⟩ :: _) _ _); (refine wpList_store_blk rfl 26 (.tmp 5) (.tmp 21) rfl g5 [Value.int .i64 0, .int .i64 0, .int .i64 0, .slice none 0 0] rfl rfl _ _ HKb2.out pg_size rfl (pcp_ones pgNone) ?_); intro w3 hk3 hg3 hz3
       have HKb3 := kp hk3; have HKa3 := kp (HKa2.out.grown hg3 (by intro e; cases e; omega)); have HW3 := kp (HW2.out.grown hg3 (by omega) (by intro k e; cases e; omega)); have hs3 := HW3.out.size
       have HR3 := kp (HR.out.below HW3.out)
       clear hk3 hg3)
    | ((with_reducible show wpList _ _ _ (⟨some 25, _, _, _, _, _⟩ :: _) _ _); go_must (refine wpList_load_blk rfl 26 (.tmp 5) rfl g5 rfl _ [Value.int .i64 0, .int .i64 0, .int .i64 0, .slice none 0 0] _ (HKb3.out) Try.underlying26 rfl pg_size ?_))
    | ((with_reducible show wpList _ _ _ (⟨none, _, _, _, _, _⟩ :: _) _ _); (refine wpList_store_blk rfl 26 (.tmp 2) (.tmp 25) rfl gr ([Value.int .i64 0, .int .i64 0, .int .i64 0, .slice none 0 0]) rfl rfl _ _ (HKa3.out) pg_size rfl (pcp_ones pgNone) ?_); intro wa hka hga hza
       have HKa := kp hka
       have HBa : Kept (Below w.heap.size w wa) := kp (HW3.out.grown hga (by have := HW3.out.size; omega) (by intro k e; cases e; exact hgr))
       have HGa := kp hga
       clear hka hga))
  refine bodyPost_ret (results_blk3 (P := Try.prog) (fn := Try.f9) rfl _ _ gr 26 _ _ _ _ rfl rfl rfl HKa.out Try.underlying26 rfl pg_size) rfl ⟨pgNone, rfl, pgNone_ok _ _, rfl, HBa.out⟩

set_option maxRecDepth 1000000 in
set_option maxHeartbeats 16000000 in
/-- Another mark. -/
theorem ref_read_form (A : Option Addr) (n c : Nat) (bs : List Nat) (w : World) (hr : Row byteV w w.heap.size A n bs) (hb : ∀ x ∈ bs, x < 256) (hn : n ≤ 65536) (out : List Nat) (s1 : R.St) (h0 : C.h0 bs = (out, s1)) (hlen : out.length = 4) (hw : s1.why = 0) (hne : out ≠ C.mark) (hob : ∀ x ∈ out, x < 256) :
    Calls Try.prog 9 #[.slice A n c] w (RefPost w C.none_ 0 3) := by
  unfold RefPost
  have HR := kp hr; have HB := kp hb; have HH0 := kp h0; have HLen := kp hlen
  have HS0 : Kept (R.Ok bs C.s0) := kp ⟨Nat.zero_le _, Nat.zero_le _, by decide⟩
  clear hr hb h0 hlen
  have hte := mark_not hob hne
  have hwz : ((s1.why : Int) == 0) = true := by rw [beq_iff_eq]; omega
  clear hob hne hw
  go_enter Try.func9, Try.ntmps9
  go_wp2_with (first
    | ((with_reducible show wpList _ _ _ (⟨some 2, _, _, _, _, _⟩ :: _) _ _); go_must (refine wpList_alloc_zero rfl 26 rfl _ pcp_zero ?_); intro gr w1 hgr hk1 hw1; have HKa1 := kp hk1; have HW1 := kp hw1; have hs1 := hw1.size; have hl1 := hk1.lt; clear hk1 hw1)
    | ((with_reducible show wpList _ _ _ (⟨some 5, _, _, _, _, _⟩ :: _) _ _); go_must (refine wpList_alloc_zero rfl 26 rfl _ pcp_zero ?_); intro g5 w2 hg5 hk2 hw2
       have HKb2 := kp hk2; have HKa2 := kp (HKa1.out.below hw2 hl1); have HW2 := kp (HW1.out.trans (hw2.mono hs1)); have hs2 := hw2.size; have hl2 := hk2.lt
       clear hk2 hw2)
    | ((with_reducible show wpList _ _ _ (⟨none, _, _, _, _, _⟩ :: _) _ _); (refine wpList_store_blk rfl 26 (.tmp 5) (.tmp 21) rfl g5 [Value.int .i64 0, .int .i64 0, .int .i64 0, .slice none 0 0] rfl rfl _ _ HKb2.out pg_size rfl (pcp_ones pgNone) ?_); intro w3 hk3 hg3 hz3
       have HKb3 := kp hk3; have HKa3 := kp (HKa2.out.grown hg3 (by intro e; cases e; omega)); have HW3 := kp (HW2.out.grown hg3 (by omega) (by intro k e; cases e; omega)); have hs3 := HW3.out.size
       have HR3 := kp (HR.out.below HW3.out)
       clear hk3 hg3)
    | ((with_reducible refine wpList_box_agg rfl 53 (.tmp 27) rfl (rdC A n c C.s0) rfl ?_); intro g w4 hg4 hk4 hw4
       have HRd4 : Kept (Rd w4 g A n c C.s0) := kp hk4
       have HR4 := kp (HR3.out.below (hw4.mono hs3)); have HKa4 := kp (HKa3.out.below hw4 HKa3.out.lt); have HKb4 := kp (HKb3.out.below hw4 HKb3.out.lt); have HW4 := kp (HW3.out.trans (hw4.mono hs3)); have hs4 := HW4.out.size
       have hlg := hk4.lt
       have hla3 := HKa3.out.lt; have hlb3 := HKb3.out.lt
       clear hk4 hw4)
    | (go_at_call 19; go_must (refine (rd_raw g w.heap.size A n c bs C.s0 HS0.out 4 (by omega) out s1 HH0.out w4 HRd4.out HR4.out (by omega) (by omega) (by omega)).mono ?_); rintro e w5 ⟨v, rfl, hown, hk5, hgn5, hr5⟩
       obtain ⟨A7, c7, rfl, hc7, hm7, hr7⟩ := Own.readsN hown HLen.out
       have HRd5 := kp hk5; have HR5 := kp hr5; have HG5 := kp hgn5
       have HKa5 := kp (HKa4.out.grown hgn5 (by intro e; cases e; omega)); have HKb5 := kp (HKb4.out.grown hgn5 (by intro e; cases e; omega))
       have HW5 := kp (HW4.out.grown hgn5 hs4 (by intro k e; cases e; omega)); have hs5 := HW5.out.size; have hlg5 := hk5.lt
       obtain ⟨hq0, hq1, hq2, hq3, _, _, _⟩ := hk5.cells
       have hm77 : c7 ≤ 9223372036854775807 := by unfold maxLen at hm7; omega
       have hcv := cvr (c := c7) hr7
       clear hown hk5 hgn5 hr5 hm7 hr7)
    | ((with_reducible show wpList _ _ _ (⟨some 41, _, _, _, _, _⟩ :: _) _ _); go_must (refine wpList_load_blk rfl 26 (.tmp 5) rfl g5 rfl _ [Value.int .i64 0, .int .i64 0, .int .i64 0, .slice none 0 0] _ (HKb5.out) Try.underlying26 rfl pg_size ?_))
    | ((with_reducible show wpList _ _ _ (⟨none, _, _, _, _, _⟩ :: _) _ _); (refine wpList_store_blk rfl 26 (.tmp 2) (.tmp 41) rfl gr ([Value.int .i64 0, .int .i64 0, .int .i64 0, .slice none 0 0]) rfl rfl _ _ (HKa5.out) pg_size rfl (pcp_ones pgNone) ?_); intro wa hka hga hza
       have HKa := kp hka
       have HBa : Kept (Below w.heap.size w wa) := kp (HW5.out.grown hga (by have := HW5.out.size; omega) (by intro k e; cases e; exact hgr))
       have HGa := kp hga
       clear hka hga))
  refine bodyPost_ret (results_blk3 (P := Try.prog) (fn := Try.f9) rfl _ _ gr 26 _ _ _ _ rfl rfl rfl HKa.out Try.underlying26 rfl pg_size) rfl ⟨pgNone, rfl, pgNone_ok _ _, rfl, HBa.out⟩
end Go.Proofs.Ytdnhfpphjpnklaa

