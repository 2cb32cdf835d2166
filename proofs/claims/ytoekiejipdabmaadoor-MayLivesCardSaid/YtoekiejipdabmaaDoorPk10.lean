/- Want, MustR1. -/
import Derived.Test.YtoekiejipdabmaaDoorPk1
import Derived.BigFrame
import Derived.Test.YtoekiejipdabmaaDoorPk7
namespace Go.Proofs.YtoekiejipdabmaaDoor
open Go.RowKit
theorem jN {P : Program} {ops : Array Oper} {rest : List Oper} {o : Oper} {a : Act} {w : World} {Q : Exit → Act → World → Prop} (hgd : Region.wanted o (yielded ops a.tmps) = true) (ty : TypeId) (x : Operand) (ho : o.op = .load ty x)
    (g : Nat) (hx : a.eval x = .pointer (some ⟨g,0,none⟩)) (t : TypeId) (cs : List Value) (d : TypeDesc) (hg : Blk w g t cs)
    (hu : P.underlying ty = some d) (hd : (match d with | .struct _ | .array _ _ => true | _ => false) = true) (hi : (P.info? ty).map (·.size) = some cs.length)
    (h : wpList P ops Q rest (a.put o.dst (.agg cs.toArray)) w) : wpList P ops Q (o :: rest) a w:=by
  exact BigFrame.wpList_want hgd fun _ hK => wp_load_row ty x ho g hx t cs.toArray (0,0) d hg hu hd (by simpa using hi) (hK _ _ h)
def fewAt (x : Sc) : Bool:=decide (x.held.len ≤ 100) && decide (x.live.len ≤ 100)
def few (ls : List Sc) : Bool:=decide (ls.length ≤ 40) && ls.all fewAt
theorem vU {ls : List Sc} : few ls = true ↔ ls.length ≤ 40 ∧ ∀ x ∈ ls,x.held.len ≤ 100 ∧ x.live.len ≤ 100:=by
  unfold few fewAt
  simp [List.all_eq_true]
theorem few_no {ls : List Sc} {i : Nat} {x : Sc} (hx : ls[i]? = some x) (h : ¬ (x.held.len ≤ 100 ∧ x.live.len ≤ 100)) : few ls = false:=by
  cases e : few ls with
  | false => rfl
  | true => exact absurd ((vU.1 e).2 x (List.mem_of_getElem? hx)) h
set_option maxRecDepth 100000 in
set_option maxHeartbeats 1600000 in
theorem qE (B : Nat) (w : World) (lA : Option Addr) (ll lc : Nat) (ls : List Sc) (hl : Secs w B lA ll ls) (hlc : ll ≤ lc) (hlm : lc ≤ maxLen) (r : Bool) (hr : few ls = r) :
    Calls Tryd.prog 9 #[.slice lA ll lc] w fun e w' => e = .returned (.bool r) ∧ w = w':=by
  have HL:=kp hl;have HR:=kp hr
  have HLl:=kp hl.len_
  unfold maxLen at hlm
  clear hl hr
  go_enter Tryd.func9,Tryd.ntmps9
  by_cases h40 : 40 < ll
  · have HE : Kept (false = r):=kp (by
      rw [← HR.out]
      cases e : few ls with
      | false => rfl
      | true => have h1:=(vU.1 e).1;rw [HLl.out] at h1;omega)
    go_wp2
    go_ret
    exact ⟨jG HE.out,rfl⟩
  have h40b : decide ((40 : Int) < (ll : Int)) = false:=by simp;omega
  have H40 : Kept (ll ≤ 40):=kp (by omega)
  clear h40
  go_wp2
  go_loop [3] (fun v3 => ∃ i : Nat,i ≤ ll ∧ v3 = .int .i64 i ∧ ∀ x ∈ ls.take i,x.held.len ≤ 100 ∧ x.live.len ≤ 100) (fun v3 => ll - (intOf v3).toNat)
  case atStart => exact ⟨0,by omega,rfl,fun f hf => by simp at hf⟩
  case round =>
    obtain ⟨i,hi,rfl,hall⟩:=hrel
    have HAll:=kp hall
    clear hall
    by_cases hlt : i < ll
    · obtain ⟨ad1,x,e1,_,hx,hxok,hd0,hd1,hd2,hd5⟩:=HL.out.get hlt
      have hh:=hxok.held.lc;have hhm:=hxok.held.cm
      have hv:=hxok.live.lc;have hvm:=hxok.live.cm
      unfold maxLen at hhm hvm
      have HX:=kp hx
      clear hx hxok
      subst e1
      by_cases h1 : 100 < x.held.len
      · have HE : Kept (false = r):=kp (by rw [← HR.out];exact (few_no HX.out (by omega)).symm)
        have h1b : decide ((100 : Int) < (x.held.len : Int)) = true:=by simp;omega
        clear h1
        go_wp2
        go_ret
        exact ⟨jG HE.out,rfl⟩
      · have h1b : decide ((100 : Int) < (x.held.len : Int)) = false:=by simp;omega
        have H1:=kp h1
        clear h1
        by_cases h2 : 100 < x.live.len
        · have HE : Kept (false = r):=kp (by rw [← HR.out];exact (few_no HX.out (by omega)).symm)
          have h2b : decide ((100 : Int) < (x.live.len : Int)) = true:=by simp;omega
          clear h2
          go_wp2
          go_ret
          exact ⟨jG HE.out,rfl⟩
        · have h2b : decide ((100 : Int) < (x.live.len : Int)) = false:=by simp;omega
          have H2:=kp h2
          clear h2
          go_wp2
          go_round
          case rel => exact ⟨i + 1,by omega,by go_num,fun y hy => by
            rw [List.take_add_one,HX.out] at hy
            simp only [Option.toList_some,List.mem_append,List.mem_singleton] at hy
            rcases hy with hy | rfl
            · exact HAll.out y hy
            · have:=H1.out;have:=H2.out;omega⟩
          case measure => simp [intOf];omega
    · have HE : Kept (true = r):=kp (by
        rw [← HR.out]
        have h1:=HAll.out
        rw [List.take_of_length_le (by rw [HLl.out];omega)] at h1
        exact (vU.2 ⟨by rw [HLl.out];exact H40.out,h1⟩).symm)
      have hge : ll ≤ i:=by omega
      clear hlt
      go_wp2
      go_ret
      exact ⟨jG HE.out,rfl⟩
set_option maxRecDepth 100000 in
set_option maxHeartbeats 1600000 in
theorem QL (B : Nat) (p : Pg) (w : World) (hp : p.Ok w B) (hB : B ≤ w.heap.size) (lA : Option Addr) (ll lc : Nat) (ls : List Sc) (hl : Secs w B lA ll ls) (hlc : ll ≤ lc) (hlm : lc ≤ maxLen) (r : Bool) (hr : Mu.shaped p ls = r) :
    Calls Tryd.prog 24 #[pgA p,.slice lA ll lc] w fun e w' => e = .returned (.bool r) ∧ Below w.heap.size w w':=by
  have HP:=kp hp;have HL:=kp hl;have HR:=kp hr
  have HLl:=kp hl.len_
  have HLen:=kp hp.row.len
  have hpc:=hp.lc;have hpm:=hp.cm
  unfold maxLen at hpm hlm
  clear hp hl hr
  rw [jM]
  go_enter Tryd.func24,Tryd.ntmps24
  by_cases hlen : ll = p.len
  rotate_left
  · have hb : ((ll : Int) != (p.len : Int)) = true:=by simp;omega
    have HE : Kept (false = r):=kp (by
      rw [← HR.out]
      cases e : Mu.shaped p ls with
      | false => rfl
      | true => have h1:=(Mu.shaped_iff.1 e).1;rw [HLl.out] at h1;exact absurd h1 hlen)
    clear hlen
    go_wp2_with (first
      | ((with_reducible refine j4 rfl 24 (.tmp 0) rfl (pgC p) rfl ?_);intro g1 w1 hg1 hk1 hw1;have HW1:=kp hw1;obtain ⟨hc0,hc1,hc2,hc3⟩:=j8 hk1;clear hg1 hk1 hw1))
    go_ret
    exact ⟨jG HE.out,HW1.out⟩
  subst hlen
  have hb : ((p.len : Int) != (p.len : Int)) = false:=by simp
  go_wp2_with (first
    | ((with_reducible refine j4 rfl 24 (.tmp 0) rfl (pgC p) rfl ?_);intro g1 w1 hg1 hk1 hw1;have HW1:=kp hw1;have HK1:=kp hk1;obtain ⟨hc0,hc1,hc2,hc3⟩:=j8 hk1;clear hg1 hk1 hw1))
  have hs1:=HW1.out.size
  go_loopw [5] (fun v5 wr => ∃ i : Nat,i ≤ p.len ∧ v5 = .int .i64 i ∧ (∀ f,f < i → Mu.shapedAt p ls f = true) ∧ Below w1.heap.size w1 wr) (fun v5 _ => p.len - (intOf v5).toNat)
  case atStart => exact ⟨0,by omega,rfl,fun f hf => by omega,Below.refl _ _⟩
  case round =>
    clear hc0 hc1 hc2 hc3
    obtain ⟨i,hi,rfl,hall,hbw⟩:=hrel
    have HAll:=kp hall;have HW:=kp (HW1.out.trans (hbw.mono hs1))
    have HKr:=kp (HK1.out.below hbw HK1.out.lt)
    have HBw:=kp hbw
    obtain ⟨hc0,hc1,hc2,hc3⟩:=j8 HKr.out
    clear hall hbw
    by_cases hlt : i < p.len
    · obtain ⟨ad,fn,e0,_,hfn,hfok,hcf⟩:=(HP.out.below (HW.out.mono hB)).fn hlt
      obtain ⟨ad1,x,e1,_,hx,hxok,hd0,hd1,hd2,hd5⟩:=(HL.out.below (HW.out.mono hB)).get hlt
      have hfl:=hfok.lc;have hfm:=hfok.cm
      unfold maxLen at hfm
      have hh:=hxok.held.lc;have hhm:=hxok.held.cm
      have hv:=hxok.live.lc;have hvm:=hxok.live.cm
      unfold maxLen at hhm hvm
      have HAt:=kp (q9 hx hfn)
      clear hfn hfok hx hxok
      subst e1
      rw [e0] at hc3
      by_cases h1 : x.held.len = fn.len
      · have h1b : ((x.held.len : Int) != (fn.len : Int)) = false:=by rw [h1];simp
        by_cases h2 : x.live.len = fn.len
        · have h2b : ((x.live.len : Int) != (fn.len : Int)) = false:=by rw [h2];simp
          have HOk : Kept (Mu.shapedAt p ls i = true):=kp (by rw [HAt.out,h1,h2];simp)
          clear h1 h2
          go_wp2
          refine wp_region_quiet_lit (by kernel_rfl) (by kernel_rfl) ?_
          iterate 28 (go_big_quiet_step (fail))
          refine wpQuiet_nil ?_
          intro _ hw'
          obtain ⟨nq,hw''⟩:=hw'
          subst hw''
          have HD:=kp (HBw.out.trans ((below_drewN (Below.refl wr.heap.size wr) nq).mono HBw.out.size))
          clear hcf hd0 hd1 hd2 hd5 hc0 hc1 hc2 hc3
          go_wp2
          go_roundw
          case rel => exact ⟨i + 1,by omega,by go_num,(fun f hf => by
            by_cases e : f = i
            · subst e;exact HOk.out
            · exact HAll.out f (by omega)),HD.out⟩
          case measure => simp [intOf];omega
        · have h2b : ((x.live.len : Int) != (fn.len : Int)) = true:=by simp;omega
          have HE : Kept (false = r):=kp (by rw [← HR.out];exact (yB hlt (by rw [HAt.out];simp [h2])).symm)
          clear h1 h2
          go_wp2
          refine wp_region_quiet_lit (by kernel_rfl) (by kernel_rfl) ?_
          iterate 28 (go_big_quiet_step (fail))
          refine wpQuiet_nil ?_
          intro _ hw'
          obtain ⟨nq,hw''⟩:=hw'
          subst hw''
          have HD:=kp (below_drewN HW.out nq)
          clear hcf hd0 hd1 hd2 hd5 hc0 hc1 hc2 hc3
          go_wp2
          go_ret
          exact ⟨jG HE.out,HD.out⟩
      · have h1b : ((x.held.len : Int) != (fn.len : Int)) = true:=by simp;omega
        have HE : Kept (false = r):=kp (by rw [← HR.out];exact (yB hlt (by rw [HAt.out];simp [h1])).symm)
        clear h1
        go_wp2
        refine wp_region_quiet_lit (by kernel_rfl) (by kernel_rfl) ?_
        iterate 28 (go_big_quiet_step (fail))
        refine wpQuiet_nil ?_
        intro _ hw'
        obtain ⟨nq,hw''⟩:=hw'
        subst hw''
        have HD:=kp (below_drewN HW.out nq)
        clear hcf hd0 hd1 hd2 hd5 hc0 hc1 hc2 hc3
        go_wp2
        go_ret
        exact ⟨jG HE.out,HD.out⟩
    · have HE : Kept (true = r):=kp (by rw [← HR.out];exact (Mu.shaped_iff.2 ⟨HLl.out,fun f hf => HAll.out f (by omega)⟩).symm)
      have hge : p.len ≤ i:=by omega
      clear hlt
      go_wp2
      go_ret
      exact ⟨jG HE.out,HW.out⟩
end Go.Proofs.YtoekiejipdabmaaDoor
