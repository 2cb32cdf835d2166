/- Box, Make, SemIn, SemP1, SemP2, in one text. -/
import Derived.Test.YtkblgafackmckaaPq11
import Derived.Test.YtkblgafackmckaaPq3
import Derived.Test.YtkblgafackmckaaPq5
import Derived.Test.YtkblgafackmckaaPq10
import Derived.Test.YtkblgafackmckaaPq4
import Derived.BigQuiet
import Derived.Deep.QuietTactic
/- Variables of one cell, made at a world that is a letter. -/
namespace Go.Proofs.Ytkblgafackmckaa
open Go.RowKit

/-- A value of one cell in a variable of its own. -/
theorem wpList_box_one {P : Program} {ops : Array Oper} {rest : List Oper} {o : Oper} {a : Act} {w : World} {Q : Exit → Act → World → Prop} (hgd : o.guard = none) (ty : TypeId) (x : Operand) (ho : o.op = .box ty x)
    (v : Value) (hx : a.eval x = v) (hv : v.cells = #[v])
    (h : ∀ g w', w.heap.size ≤ g → Blk w' g ty [v] → Below w.heap.size w w' → wpList P ops Q rest (a.put o.dst (.pointer (some ⟨g, 0, none⟩))) w') : wpList P ops Q (o :: rest) a w := by
  refine wpList_plain hgd fun K hK => ?_
  unfold Oper.wp
  simp [execOp, ho, hx, Instr.box, newVar, newRow, hv, Result.andThen]
  exact hK _ _ (h _ _ (Nat.le_refl _) (Blk.newAt rfl rfl) ((Below.refl _ _).alloc (Nat.le_refl _) _))
/-- A new variable of one cell, zero. -/
theorem wpList_alloc_one {P : Program} {ops : Array Oper} {rest : List Oper} {o : Oper} {a : Act} {w : World} {Q : Exit → Act → World → Prop} (hgd : o.guard = none) (ty : TypeId) (ho : o.op = .alloc ty)
    (v : Value) (hz : (P.info? ty).map (·.zero) = some (some v)) (hv : v.cells = #[v])
    (h : ∀ g w', w.heap.size ≤ g → Blk w' g ty [v] → Below w.heap.size w w' → wpList P ops Q rest (a.put o.dst (.pointer (some ⟨g, 0, none⟩))) w') : wpList P ops Q (o :: rest) a w := by
  refine wpList_plain hgd fun K hK => ?_
  cases hq : P.info? ty with
  | none => simp [hq] at hz
  | some i =>
    have hz' : i.zero = some v := by simpa [hq] using hz
    unfold Oper.wp
    simp [execOp, ho, Instr.alloc, zeroValue, typeInfo, hq, hz', newVar, newRow, hv, Result.andThen]
    exact hK _ _ (h _ _ (Nat.le_refl _) (Blk.newAt rfl rfl) ((Below.refl _ _).alloc (Nat.le_refl _) _))
/-- A new block and a variable that holds the slice in it: a variable of the call's own. -/
theorem Var.new {w : World} {S : Nat → Prop} {g : Nat} {t e : TypeId} {v : Value} {xs : List Value} (hb : Blk w g t [v]) (ho : Own w 0 e v xs) (hne : v.ownBlock ≠ some g) (hg : ¬ S g) (hS : ∀ k, v.ownBlock = some k → ¬ S k) (hl : ∀ k, S k → k < w.heap.size) : Var w S g t e xs :=
  ⟨v, hb, ho, hne, hg, hS, hl⟩
end Go.Proofs.Ytkblgafackmckaa

/- A cell of a block, stored at a world that is a letter; slices of structs, made all zero. -/
namespace Go.Proofs.Ytkblgafackmckaa
open Go.RowKit

/-- One cell of a block that is known whole. -/
theorem wpList_store_cell {P : Program} {ops : Array Oper} {rest : List Oper} {o : Oper} {a : Act} {w : World} {Q : Exit → Act → World → Prop} (hgd : o.guard = none) (ty : TypeId) (x y : Operand) (ho : o.op = .store ty x y)
    (g k : Nat) (v : Value) (hx : a.eval x = .pointer (some ⟨g, k, none⟩)) (hy : a.eval y = v) (h1 : v.oneCell' = true) (hc : v.cells = #[v])
    (t : TypeId) (cs : List Value) (hg : Blk w g t cs) (hk : k < cs.length) (hi : (P.info? ty).map (·.size) = some 1)
    (h : ∀ w', Blk w' g t (cs.set k v) → w.grownBy w' (some g) → w'.heap.size = w.heap.size → wpList P ops Q rest (a.put o.dst undef) w') : wpList P ops Q (o :: rest) a w := by
  refine wpList_plain hgd fun K hK => ?_
  have hrun : (storeVar ty ⟨g, k, none⟩ v).run P w = .ok () (w.setCells g k [v]) := by
    have hst := run_storeCells_cells (P := P) g k [v] 0 w (fun j hj => by
      have : j = 0 := by simp at hj; exact hj
      subst this
      show (w.cell? ⟨g, k, none⟩).isSome = true
      rw [hg.cell, List.getElem?_eq_getElem hk]; rfl) (fun j hj => by
      have : j = 0 := by simp at hj; exact hj
      subst this
      exact hg.frozen _) (fun u hu => by rw [List.mem_singleton] at hu; subst hu; exact h1)
    cases hq : P.info? ty with
    | none => simp [hq] at hi
    | some i =>
      have hs : i.size = 1 := by simpa [hq] using hi
      simp only [Nat.add_zero] at hst
      simp [storeVar, sizeOf, typeInfo, hq, hc, hs, hst]
  have hw : w.setCells g k [v] = w.setCell ⟨g, k, none⟩ v := rfl
  rw [hw] at hrun
  unfold Oper.wp execOp
  simp only [ho, hx, hy, Instr.storeAt, Instr.sureAddr, Sem.run_bind, Sem.run_pure, Result.andThen_ok, hrun]
  exact hK _ _ (h _ (hg.set k v) (grown_set (grown_refl _ _)) (by simp))
/-- A new slice of structs whose cells are all the same when zero. -/
theorem wpList_make_rep {P : Program} {ops : Array Oper} {rest : List Oper} {o : Oper} {a : Act} {w : World} {Q : Exit → Act → World → Prop} (hgd : o.guard = none) (t : TypeId) (l c : Operand) (ho : o.op = .makeSlice t l c)
    (e : TypeId) (z u : Value) (sz bytes : Nat) (ht : P.underlying t = some (.slice e)) (hi : (P.info? e).map (fun i => (i.zero, i.size, i.bytes)) = some (some z, sz, bytes)) (hz1 : z.cells = (List.replicate sz u).toArray) (hsz : 0 < sz)
    (kl kc : IntKind) (n m : Nat) (hl : a.eval l = .int kl (n : Int)) (hc : a.eval c = .int kc (m : Int)) (hnm : n ≤ m) (hb : bytes * m ≤ 281474976710656) (h63 : m ≤ 9223372036854775807)
    (h : ∀ g w', w.heap.size ≤ g → Blk w' g e (List.replicate (m * sz) u) → Below w.heap.size w w' → wpList P ops Q rest (a.put o.dst (.slice (some ⟨g, 0, none⟩) n m)) w') : wpList P ops Q (o :: rest) a w := by
  refine wpList_plain hgd fun K hK => ?_
  obtain ⟨i, hi0, hzz⟩ := Option.map_eq_some_iff.1 hi
  simp only [Prod.mk.injEq] at hzz
  obtain ⟨hz, hs, hbb⟩ := hzz
  have hb' : (i.bytes : Int) * (m : Int) ≤ 281474976710656 := by
    have h : ((i.bytes * m : Nat) : Int) ≤ 281474976710656 := by rw [hbb]; omega
    rwa [Int.natCast_mul] at h
  have hr := run_make (P := P) w t e i z ht hi0 hz kl kc n m (by omega) (by omega) hb' (by omega)
  simp only [Int.toNat_natCast, hs, hz1] at hr
  have hmc : madeCells (List.replicate sz u).toArray (m * sz) = (List.replicate (m * sz) u).toArray := by
    apply Array.ext
    · simp [madeCells]
    · intro k h1 h2
      have hlt : k % sz < sz := Nat.mod_lt _ hsz
      simp [madeCells, hlt]
  unfold Oper.wp
  simp [execOp, ho, hl, hc, hr, Result.andThen]
  exact hK _ _ (h _ _ (Nat.le_refl _) (Blk.newAt hmc rfl) ((Below.refl _ _).alloc (Nat.le_refl _) _))
end Go.Proofs.Ytkblgafackmckaa

/- Configs in memory: what they read as. -/
namespace Go.Proofs.Ytkblgafackmckaa
open Go.RowKit

/-- A place, as cells hold it. -/
def frV (f : Nat × Nat) : Nat → Value
  | 0 => .int .i64 (f.1 : Int)
  | _ => .int .i64 (f.2 : Int)
/-- A stack. -/
structure Sv where
  A : Option Addr
  len : Nat
  cap : Nat
  stack : List (Nat × Nat)
instance : Inhabited Sv := ⟨⟨none, 0, 0, []⟩⟩
def svV (x : Sv) : Value := .slice x.A x.len x.cap
structure Sv.Ok (x : Sv) (w : World) (B : Nat) : Prop where
  row : Recs 2 frV w B x.A x.len x.stack
  lc : x.len ≤ x.cap
  cm : x.cap ≤ maxLen
/-- A thread of the program's. -/
structure Tv where
  sv : Sv
  slots : List Nat
instance : Inhabited Tv := ⟨⟨default, []⟩⟩
def tvV (x : Tv) : Nat → Value
  | 0 => .slice x.sv.A x.sv.len x.sv.cap
  | j + 1 => .int .i64 (x.slots.getD j 0 : Int)
def tvT (x : Tv) : M.Th := ⟨x.sv.stack, x.slots⟩
/-- A config of the program's. -/
structure Pc where
  A : Option Addr
  len : Nat
  cap : Nat
  tvs : List Tv
  ow : List Nat
def pcC (q : Pc) : List Value := .slice q.A q.len q.cap :: q.ow.map natV
def pcA (q : Pc) : Value := .agg (pcC q).toArray
def Pc.cf (q : Pc) : M.Cf := ⟨q.tvs.map tvT, q.ow⟩
structure Pc.Ok (q : Pc) (w : World) (B : Nat) : Prop where
  row : Recs 9 tvV w B q.A q.len q.tvs
  lc : q.len ≤ q.cap
  cm : q.cap ≤ maxLen
  svs : ∀ x ∈ q.tvs, x.sv.Ok w B
theorem Sv.Ok.keep {x : Sv} {w w' : World} {B : Nat} (h : x.Ok w B) (hk : ∀ p : Addr, p.block < B → w'.cell? p = w.cell? p) : x.Ok w' B := ⟨h.row.keep hk, h.lc, h.cm⟩
theorem Sv.Ok.more {x : Sv} {w : World} {B B' : Nat} (h : x.Ok w B) (hB : B ≤ B') : x.Ok w B' := ⟨h.row.more hB, h.lc, h.cm⟩
theorem Pc.Ok.keep {q : Pc} {w w' : World} {B : Nat} (h : q.Ok w B) (hk : ∀ p : Addr, p.block < B → w'.cell? p = w.cell? p) : q.Ok w' B := ⟨h.row.keep hk, h.lc, h.cm, fun x hx => (h.svs x hx).keep hk⟩
theorem Pc.Ok.below {q : Pc} {w w' : World} {B : Nat} (h : q.Ok w B) (hb : Below B w w') : q.Ok w' B := h.keep fun _ hp => hb.cell hp
theorem Pc.Ok.more {q : Pc} {w : World} {B B' : Nat} (h : q.Ok w B) (hB : B ≤ B') : q.Ok w B' := ⟨h.row.more hB, h.lc, h.cm, fun x hx => (h.svs x hx).more hB⟩
theorem Pc.ths_len (q : Pc) : q.cf.ths.length = q.tvs.length := by simp [Pc.cf]
theorem Pc.Ok.len {q : Pc} {w : World} {B : Nat} (h : q.Ok w B) : q.cf.ths.length = q.len := by rw [q.ths_len]; exact h.row.len
theorem Pc.th_of {q : Pc} {k : Nat} {x : Tv} (h : q.tvs[k]? = some x) : M.th q.cf k = tvT x := M.th_is (by show (q.tvs.map tvT)[k]? = _; rw [List.getElem?_map, h]; rfl)
/-- Thread k's cells. -/
theorem Pc.Ok.thread {q : Pc} {w : World} {B : Nat} (h : q.Ok w B) {k : Nat} (hk : k < q.len) :
    ∃ ad x, q.A = some ad ∧ ad.block < B ∧ q.tvs[k]? = some x ∧ x.sv.Ok w B ∧ M.th q.cf k = tvT x ∧ x.sv.stack.length = x.sv.len ∧ w.cell? (ad.add (k * 9)) = some (.slice x.sv.A x.sv.len x.sv.cap) ∧
      ∀ j, w.cell? ⟨(ad.add (k * 9)).block, (ad.add (k * 9)).off + (j + 1), none⟩ = some (.int .i64 (x.slots.getD j 0 : Int)) ∨ 8 ≤ j := by
  obtain ⟨ad, x, e, hb, hx, h0, hc⟩ := h.row.field hk
  refine ⟨ad, x, e, hb, hx, h.svs x (List.mem_of_getElem? hx), Pc.th_of hx, (h.svs x (List.mem_of_getElem? hx)).row.len, h0 (by omega), fun j => ?_⟩
  rcases Nat.lt_or_ge j 8 with hj | hj
  · exact .inl (hc (j + 1) (by omega) (by omega))
  · exact .inr hj
/-- The last place's cells. -/
theorem Sv.Ok.last {x : Sv} {w : World} {B : Nat} (h : x.Ok w B) (h0 : 0 < x.len) :
    ∃ ad, x.A = some ad ∧ ad.block < B ∧ w.cell? (ad.add ((x.len - 1) * 2)) = some (.int .i64 ((M.top x.stack).1 : Int)) ∧ w.cell? ⟨(ad.add ((x.len - 1) * 2)).block, (ad.add ((x.len - 1) * 2)).off + 1, none⟩ = some (.int .i64 ((M.top x.stack).2 : Int)) := by
  obtain ⟨ad, f, e, hb, hx, hc0, hc⟩ := h.row.field (k := x.len - 1) (by omega)
  have ef : M.top x.stack = f := by
    unfold M.top
    rw [h.row.len, List.getD_eq_getElem?_getD, hx]; rfl
  rw [ef]
  exact ⟨ad, e, hb, hc0 (by omega), hc 1 (by omega) (by omega)⟩
theorem lives_out {c : M.Cf} {t : Int} (h : t < 0 ∨ (c.ths.length : Int) ≤ t) : M.lives c t = false := by
  unfold M.lives
  by_cases h0 : 0 ≤ t
  · rw [decide_eq_true h0, Bool.true_and]
    cases hl : M.livesN c t.toNat with
    | false => rfl
    | true => have := M.lives_lt hl; omega
  · rw [decide_eq_false h0]; rfl
theorem lives_in {c : M.Cf} {t : Nat} {x : M.Th} (h : M.th c t = x) : M.lives c (t : Int) = decide (0 < x.stack.length) := by
  rw [M.lives_nat]; unfold M.livesN; rw [h]
end Go.Proofs.Ytkblgafackmckaa

/- The program's interpreter, walked: what is told of a config's threads. -/
namespace Go.Proofs.Ytkblgafackmckaa
open Go.RowKit

set_option maxRecDepth 100000 in
set_option maxHeartbeats 800000 in
theorem sem_among (n c : Int) (_hn : I64 n) (_hc : I64 c) (b : Bool) (hb : decide (0 ≤ n ∧ n < c) = b) (w : World) :
    Calls Try.prog 31 #[.int .i64 n, .int .i64 c] w fun e w' => e = .returned (.bool b) ∧ w = w' := by
  subst hb
  by_cases h1 : 0 ≤ n
  · by_cases h2 : n < c
    · rw [decide_eq_true (show 0 ≤ n ∧ n < c from ⟨h1, h2⟩)]
      go_enter Try.func31, Try.ntmps31
      go_wp2
      go_ret
      exact ⟨rfl, rfl⟩
    · rw [decide_eq_false (show ¬ (0 ≤ n ∧ n < c) from fun h => h2 h.2)]
      go_enter Try.func31, Try.ntmps31
      go_wp2
      go_ret
      exact ⟨rfl, rfl⟩
  · rw [decide_eq_false (show ¬ (0 ≤ n ∧ n < c) from fun h => h1 h.1)]
    go_enter Try.func31, Try.ntmps31
    go_wp2
    go_ret
    exact ⟨rfl, rfl⟩

set_option maxRecDepth 100000 in
set_option maxHeartbeats 800000 in
theorem sem_mark (n : Nat) (hn : n ≤ 1000) (w : World) :
    Calls Try.prog 35 #[.int .i64 (n : Int)] w fun e w' => e = .returned (.int .i64 ((n + 1 : Nat) : Int)) ∧ w = w' := by
  go_enter Try.func35, Try.ntmps35
  go_wp2
  go_ret
  exact ⟨ret_int (by omega), rfl⟩

set_option maxRecDepth 100000 in
set_option maxHeartbeats 800000 in
theorem sem_unmark (n : Nat) (hn : n ≤ 1000) (w : World) :
    Calls Try.prog 32 #[.int .i64 (n : Int)] w fun e w' => e = .returned (.int .i64 ((n : Int) - 1)) ∧ w = w' := by
  go_enter Try.func32, Try.ntmps32
  go_wp2
  go_ret
  exact ⟨ret_int (by omega), rfl⟩

set_option maxRecDepth 100000 in
set_option maxHeartbeats 800000 in
/-- Where a thread is that lives. -/
theorem sem_last (a ad : Addr) (n c : Nat) (w : World) (h0 : 0 < n) (hn : n ≤ 1000) (hc : w.cell? a = some (.slice (some ad) n c)) :
    Calls Try.prog 34 #[.pointer (some a)] w fun e w' => e = .returned (.pointer (some (ad.add ((n - 1) * 2)))) ∧ ∃ m, w' = w.drewN m := by
  obtain ⟨k, rfl⟩ : ∃ k, n = k + 1 := ⟨n - 1, by omega⟩
  rw [Nat.add_sub_cancel]
  go_enter Try.func34, Try.ntmps34
  go_wp2
  go_quiet (fail)
  go_wp2
  go_ret
  exact ⟨rfl, _, rfl⟩

end Go.Proofs.Ytkblgafackmckaa

/- The program's interpreter, walked: does a thread live? -/
namespace Go.Proofs.Ytkblgafackmckaa
open Go.RowKit

set_option maxRecDepth 100000 in
set_option maxHeartbeats 800000 in
/-- Does a thread live? -/
theorem sem_lives (B : Nat) (q : Pc) (w : World) (hq : q.Ok w B) (hB : B ≤ w.heap.size) (hl : q.len ≤ 1000) (t : Int) (ht : I64 t) (b : Bool) (hb : M.lives q.cf t = b) :
    Calls Try.prog 16 #[pcA q, .int .i64 t] w fun e w' => e = .returned (.bool b) ∧ Below w.heap.size w w' := by
  have hlen := hq.len
  have HT := kp ht
  have HLc : Kept (I64 (q.len : Int)) := kp (by unfold I64; omega)
  have hcap := hq.lc
  have hcm := hq.cm
  unfold maxLen at hcm
  by_cases hin : 0 ≤ t ∧ t < (q.len : Int)
  · obtain ⟨k, rfl⟩ : ∃ k : Nat, t = (k : Int) := ⟨t.toNat, by omega⟩
    have hk : k < q.len := by omega
    have HIn := kp (decide_eq_true hin)
    obtain ⟨ad, x, hA, hbl, hx, hok, hth, hsl, hc0, _⟩ := hq.thread hk
    rw [lives_in hth] at hb
    have hb2 : decide (0 < x.sv.len) = b := by rw [← hb, ← hsl]; rfl
    have hxm := hok.cm; have hxc := hok.lc
    unfold maxLen at hxm
    have HC0 := kp hc0
    obtain ⟨n, hn⟩ : ∃ n, x.sv.len = n := ⟨_, rfl⟩
    rw [hn] at hb2 hxc HC0
    have HE : Kept (pcC q = .slice (some ad) q.len q.cap :: q.ow.map natV) := kp (by unfold pcC; rw [hA])
    have hbz : ad.block < w.heap.size := by omega
    clear hq hb hx hok hth hsl hc0 hA hin hn hbl hlen ht
    unfold pcA
    rw [HE.out]
    cases b
    all_goals
      go_enter Try.func16, Try.ntmps16
      go_wp2_with (first
        | ((with_reducible refine wpList_box_agg rfl 31 (.tmp 0) rfl (.slice (some ad) q.len q.cap :: q.ow.map natV) rfl ?_); intro g1 w1 hg1 hk1 hw1; have HW1 := kp hw1; have hf0 := hk1.cell 0; have hf1 := (hw1.cell (p := ad.add (k * 9)) (by rw [add_block]; exact hbz)).trans HC0.out; simp only [List.getElem?_cons_zero] at hf0; clear hk1 hw1)
        | (go_at_call 31; go_must (refine (sem_among _ _ HT.out HLc.out true HIn.out _).mono ?_); rintro e w2 ⟨rfl, rfl⟩))
      go_ret
      exact ⟨rfl, HW1.out⟩
  · have hb0 : M.lives q.cf t = false := lives_out (by omega)
    rw [hb0] at hb
    subst hb
    have HIn := kp (decide_eq_false hin)
    clear hq hlen ht hin hb0
    go_enter Try.func16, Try.ntmps16
    go_wp2_with (first
      | ((with_reducible refine wpList_box_agg rfl 31 (.tmp 0) rfl (pcC q) rfl ?_); intro g1 w1 hg1 hk1 hw1; have HW1 := kp hw1; have hf0 := hk1.cell 0; simp only [pcC, List.getElem?_cons_zero] at hf0; clear hk1 hw1)
      | (go_at_call 31; go_must (refine (sem_among _ _ HT.out HLc.out false HIn.out _).mono ?_); rintro e w2 ⟨rfl, rfl⟩))
    go_ret
    exact ⟨rfl, HW1.out⟩
end Go.Proofs.Ytkblgafackmckaa
