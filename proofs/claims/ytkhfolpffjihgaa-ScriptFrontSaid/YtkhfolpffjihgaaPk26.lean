/- SemPickIn, SemStart, Want, SemLaw1, Equal, in one text. -/
import Derived.Test.YtkhfolpffjihgaaPk3
import Derived.Test.YtkhfolpffjihgaaPk2
import Derived.Test.YtkhfolpffjihgaaPk22
import Derived.Test.YtkhfolpffjihgaaPk10
import Derived.Test.YtkhfolpffjihgaaPk1
import Derived.BigFrame
import Derived.Test.YtkhfolpffjihgaaPk25
import Derived.Laws.StructEq
namespace Go.Proofs.Ytkhfolpffjihgaa
open Go.RowKit
def pkV (x : Int × Bool) : Nat → Value
  | 0 => .int .i64 x.1
  | _ => .bool x.2
def Picks (w : World) (B : Nat) (A : Option Addr) (n : Nat) (l : List (Int × Bool)) : Prop := Recs 2 pkV w B A n l ∧ ∀ x ∈ l, I64 x.1
theorem Picks.keep {w w' : World} {B : Nat} {A : Option Addr} {n : Nat} {l : List (Int × Bool)} (h : Picks w B A n l) (hk : ∀ p : Addr, p.block < B → w'.cell? p = w.cell? p) : Picks w' B A n l := ⟨h.1.keep hk, h.2⟩
theorem built_conf0 : Try.prog.built 43 [] = some (Value.slice none 0 0 :: zeros 16).toArray := by kernel_rfl
theorem conf0_ones (A : Option Addr) (n c : Nat) : ∀ u ∈ Value.slice A n c :: zeros 16, u.oneCell' = true := by
  intro u hu
  rcases List.mem_cons.1 hu with rfl | hu
  · rfl
  · rw [List.eq_of_mem_replicate hu]; rfl
def pcNone : Pc := ⟨none, 0, 0, [], List.replicate 16 0⟩
theorem pcNone_cells : pcC pcNone = Value.slice none 0 0 :: zeros 16 := by unfold pcC pcNone; rw [zeros_ow]
theorem l3 {P : Program} {ops : Array Oper} {rest : List Oper} {o : Oper} {a : Act} {w : World} {Q : Exit → Act → World → Prop} (hgd : Region.wanted o (yielded ops a.tmps) = true) (ty : TypeId) (x : Operand) (ho : o.op = .load ty x)
    (g : Nat) (hx : a.eval x = .pointer (some ⟨g, 0, none⟩)) (t : TypeId) (cs : List Value) (d : TypeDesc) (hg : Blk w g t cs)
    (hu : P.underlying ty = some d) (hd : (match d with | .struct _ | .array _ _ => true | _ => false) = true) (hi : (P.info? ty).map (·.size) = some cs.length)
    (h : wpList P ops Q rest (a.put o.dst (.agg cs.toArray)) w) : wpList P ops Q (o :: rest) a w := by
  exact BigFrame.wpList_want hgd fun _ hK => wp_load_row ty x ho g hx t cs.toArray (0, 0) d hg hu hd (by simpa using hi) (hK _ _ h)
theorem q7 {P : Program} {ops : Array Oper} {rest : List Oper} {o : Oper} {a : Act} {w : World} {Q : Exit → Act → World → Prop} (hgd : Region.wanted o (yielded ops a.tmps) = true) (ty : TypeId) (x : Operand) (ho : o.op = .load ty x)
    (b c : Nat) (hx : a.eval x = .pointer (some ⟨b, c, none⟩)) (cs : List Value) (d : TypeDesc) (hc : w.rangeAt b c cs)
    (hu : P.underlying ty = some d) (hd : d.isRow = true) (hi : (P.info? ty).map (·.size) = some cs.length)
    (h : wpList P ops Q rest (a.put o.dst (.agg cs.toArray)) w) : wpList P ops Q (o :: rest) a w :=
  BigFrame.wpList_want hgd fun _ hK => wp_load_mid ty x ho b c hx cs d hc hu hd hi (hK _ _ h)
theorem jT {P : Program} {ops : Array Oper} {rest : List Oper} {o : Oper} {a : Act} {w : World} {Q : Exit → Act → World → Prop} (hgd : Region.wanted o (yielded ops a.tmps) = true) (ty : TypeId) (x : Operand) (ho : o.op = .load ty x)
    (ad : Addr) (hx : a.eval x = .pointer (some ad)) (cs : List Value) (d : TypeDesc) (hc : ∀ j v, cs[j]? = some v → w.cell? (ad.add j) = some v)
    (hu : P.underlying ty = some d) (hd : d.isRow = true) (hi : (P.info? ty).map (·.size) = some cs.length)
    (h : wpList P ops Q rest (a.put o.dst (.agg cs.toArray)) w) : wpList P ops Q (o :: rest) a w := by
  refine BigFrame.wpList_want hgd fun K hK => ?_
  have hl : (loadCells ad cs.length).run P w = .ok cs.toArray w := run_loadCells_list (P := P) w ad cs hc
  have hrun : (loadVar ty ad).run P w = .ok (.agg cs.toArray) w := by
    cases hq : P.info? ty with
    | none => simp [hq] at hi
    | some i =>
      have hs : i.size = cs.length := by simpa [hq] using hi
      have hagg : (isAgg ty).run P w = .ok true w := by
        unfold isAgg
        rw [Sem.run_bind, run_underlying hu w]
        cases d <;> simp_all
      simp [loadVar, Sem.run_bind, hagg, sizeOf, typeInfo, hq, hs, hl]
  unfold Oper.wp execOp
  simp only [ho, hx, Instr.loadAt, Instr.sureAddr, Sem.run_bind, Sem.run_pure, Result.andThen_ok, hrun]
  exact hK _ _ h
def runTo (p : Pg) (l : List (Int × Bool)) (i : Nat) : M.Cf := (l.take i).foldl (fun c x => M.step p c x.1 x.2) M.start
theorem y6 (p : Pg) (l : List (Int × Bool)) : runTo p l 0 = M.start := rfl
theorem xD (p : Pg) (l : List (Int × Bool)) (i : Nat) (x : Int × Bool) (hx : l[i]? = some x) : runTo p l (i + 1) = M.step p (runTo p l i) x.1 x.2 := by
  unfold runTo
  rw [List.take_add_one, hx, List.foldl_append]; rfl
theorem qG {p : Pg} (hf : Fine p) (hl : p.fns.length = p.len) (l : List (Int × Bool)) : ∀ i, M.Good p (runTo p l i)
  | 0 => M.good_start hf
  | i + 1 => by
    cases hx : l[i]? with
    | some x => rw [xD p l i x hx]; exact M.good_step hf hl (qG hf hl l i) _ _
    | none =>
      have h := qG hf hl l i
      unfold runTo at h ⊢
      rw [List.take_add_one, hx, Option.toList, List.append_nil]; exact h
theorem qZ {p : Pg} {w : World} {B B' : Nat} (h : p.Ok w B) (hB : B ≤ B') : p.Ok w B' := ⟨h.g, h.l, h.s, h.row.more hB, fun f hf => ⟨⟨(h.fns f hf).nodes.1.more hB, (h.fns f hf).nodes.2⟩, (h.fns f hf).lc, (h.fns f hf).cm, (h.fns f hf).nil⟩, h.lc, h.cm, h.nil⟩
end Go.Proofs.Ytkhfolpffjihgaa
