/- WitLaw1, Want. -/
import Derived.Test.YtcbfghcdbmlneaaPk5
import Derived.Test.YtcbfghcdbmlneaaWitP4
import Derived.Test.YtcbfghcdbmlneaaPk1
import Derived.BigFrame
namespace Go.Proofs.Ytcbfghcdbmlneaa
open Go.RowKit
theorem wt_one_ok (w : World) (B : Nat) : (⟨none,0,0,[],0,1,2⟩ : Wt).Ok w B:=⟨⟨⟨rfl,fun h => absurd (show 0 < 0 from h) (by omega)⟩,fun x hx => by cases hx⟩,Nat.le_refl _,by simp [maxLen],by simp [I64],by simp [I64],by simp [I64]⟩
theorem XM : (⟨none,0,0,[],0,1,2⟩ : Wt).bytes = [97,108,119,49,0,0,1,2]:=by
  show T.mark ++ (V.put 0 ++ ([] ++ T.three 0 1 2)) = _
  rw [V.put_last 0 (by omega)]
  rfl
theorem XL : (⟨none,0,0,[],0,1,2⟩ : Wt).check = 0:=T.check_fine (z:=[]) (a:=0) (b:=1) (g:=2) (by simp) (fun x hx => by cases hx) (T.okN_iff.2 ⟨by omega,by omega,by omega,by omega,by omega,by omega,by omega⟩)
set_option maxRecDepth 100000 in
set_option maxHeartbeats 1600000 in
theorem lR (w : World) : Calls Try.prog 9 #[] w fun e w' => e = .returned (.bool true) ∧ Below w.heap.size w w':=by
  go_enter Try.func9,Try.ntmps9
  go_wp2_with (go_at_call 10;fail)
  refine (zJ w.heap.size ⟨none,0,0,[],0,1,2⟩ w (wt_one_ok _ _) (Nat.le_refl _) XL).mono ?_
  rintro e w1 ⟨v,rfl,hown,hb1⟩
  rw [XM] at hown
  obtain ⟨A1,c1,rfl,_,_,hr1⟩:=Own.readsN hown (n:=8) rfl
  have hcv:=J6 (c:=c1) hr1
  have hte : ((strOf [97,108,119,49,0,0,1,2]).toList == ([97,108,119,49,0,0,1,2] : List UInt8)) = true:=by rw [yY];rfl
  obtain ⟨str,hstr⟩ : ∃ str,strOf [97,108,119,49,0,0,1,2] = str:=⟨_,rfl⟩
  rw [hstr] at hcv hte
  have HB1:=kp hb1
  clear hown hr1 hstr hb1
  go_wp2
  go_ret
  exact ⟨rfl,HB1.out⟩
theorem lO {P : Program} {ops : Array Oper} {rest : List Oper} {o : Oper} {a : Act} {w : World} {Q : Exit → Act → World → Prop} (hgd : Region.wanted o (yielded ops a.tmps) = true) (ty : TypeId) (x : Operand) (ho : o.op = .load ty x)
    (g : Nat) (hx : a.eval x = .pointer (some ⟨g,0,none⟩)) (t : TypeId) (cs : List Value) (d : TypeDesc) (hg : Blk w g t cs)
    (hu : P.underlying ty = some d) (hd : (match d with | .struct _ | .array _ _ => true | _ => false) = true) (hi : (P.info? ty).map (·.size) = some cs.length)
    (h : wpList P ops Q rest (a.put o.dst (.agg cs.toArray)) w) : wpList P ops Q (o :: rest) a w:=by
  exact BigFrame.wpList_want hgd fun _ hK => wp_load_row ty x ho g hx t cs.toArray (0,0) d hg hu hd (by simpa using hi) (hK _ _ h)
theorem qY {P : Program} {ops : Array Oper} {rest : List Oper} {o : Oper} {a : Act} {w : World} {Q : Exit → Act → World → Prop} (hgd : Region.wanted o (yielded ops a.tmps) = true) (ty : TypeId) (x : Operand) (ho : o.op = .load ty x)
    (ad : Addr) (hx : a.eval x = .pointer (some ad)) (cs : List Value) (d : TypeDesc) (hc : ∀ j v,cs[j]? = some v → w.cell? (ad.add j) = some v)
    (hu : P.underlying ty = some d) (hd : d.isRow = true) (hi : (P.info? ty).map (·.size) = some cs.length)
    (h : wpList P ops Q rest (a.put o.dst (.agg cs.toArray)) w) : wpList P ops Q (o :: rest) a w:=by
  refine BigFrame.wpList_want hgd fun K hK => ?_
  have hl : (loadCells ad cs.length).run P w = .ok cs.toArray w:=run_loadCells_list (P:=P) w ad cs hc
  have hrun : (loadVar ty ad).run P w = .ok (.agg cs.toArray) w:=by
    cases hq : P.info? ty with
    | none => simp [hq] at hi
    | some i =>
      have hs : i.size = cs.length:=by simpa [hq] using hi
      have hagg : (isAgg ty).run P w = .ok true w:=by
        unfold isAgg
        rw [Sem.run_bind,run_underlying hu w]
        cases d <;> simp_all
      simp [loadVar,Sem.run_bind,hagg,sizeOf,typeInfo,hq,hs,hl]
  unfold Oper.wp execOp
  simp only [ho,hx,Instr.loadAt,Instr.sureAddr,Sem.run_bind,Sem.run_pure,Result.andThen_ok,hrun]
  exact hK _ _ h
end Go.Proofs.Ytcbfghcdbmlneaa
