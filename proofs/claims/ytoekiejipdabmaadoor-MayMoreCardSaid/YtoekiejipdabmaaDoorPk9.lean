/- MayP4, SemMath, SetP3, SetLaw1, SetLaid. -/
import Derived.Test.YtoekiejipdabmaaDoorMayP3
import Derived.Test.YtoekiejipdabmaaDoorPk4
import Derived.Test.YtoekiejipdabmaaDoorPk1
import Derived.Test.YtoekiejipdabmaaDoorPk2
import Derived.Test.YtoekiejipdabmaaDoorPk6
import Derived.BigQuiet
import Derived.Deep.QuietTactic
import Derived.Test.YtoekiejipdabmaaDoorRows
import Derived.Deep.DeepHandedRow
import Derived.Lib.LaidTab
namespace Go.Proofs.YtoekiejipdabmaaDoor
open Go.RowKit
def FnFit16 (ll k : Nat) (l : List Nd) : Prop:=∀ (i : Nat) (y : Nd),l[i]? = some y → CallFit16 ll y ∧ SuccFit k y
set_option maxRecDepth 1000000 in
set_option maxHeartbeats 8000000 in
theorem may_func (B : Nat) (c : Clm) (x : Sc) (fn : Fn) (w : World) (hc : c.Ok w B) (hx : x.Ok w B) (hfn : fn.Ok w B) (hB : B ≤ w.heap.size) (hl : x.live.len = fn.len) (h0 : 0 < fn.len) (hfit : FnFit16 c.ll x.live.len fn.nodes) (a : Int) (cc : Nat) (hr : Ma.func c.m c.lost c.ls x fn.nodes = (a,cc)) :
    Calls Tryd.prog 21 #[clmA c,scA x,.slice fn.A fn.len fn.cap] w fun e w' => e = .returned (.tuple #[.int .i64 a,.int .i64 (cc : Int)]) ∧ Below w.heap.size w w':=by
  have HC:=kp hc;have HR:=kp hr;have HFn:=kp hfn;have HFits:=kp hfit;have HX:=kp hx
  have hfc:=hfn.lc;have hfm:=hfn.cm
  have hvc:=hx.live.lc;have hvm:=hx.live.cm
  unfold maxLen at hfm hvm
  have hle:=hx.le
  obtain ⟨adV,eV,hbV,_,hh0,hcV⟩:=hx.live.get (k:=0) (by omega)
  obtain ⟨h0v,hh0e⟩ : ∃ q,x.live.z.getD 0 0 = q:=⟨_,rfl⟩
  rw [hh0e] at hh0 hcV
  rw [xS] at hcV
  have HCV:=kp hcV;have HAe:=kp eV;have HHe:=kp hh0e
  obtain ⟨wt,hwt⟩ : ∃ q,S.within x.le h0v 32 = q:=⟨_,rfl⟩
  have HWt0:=kp hwt
  have HL:=kp hl
  have h0l : (0 : Int) < (x.live.len : Int):=by omega
  clear hl hc hr hfn hfit hx hcV eV hh0e hwt
  obtain ⟨adF,_,eF,_⟩:=HFn.out.nodes.get h0
  have HEF:=kp eF
  rw [JP,scA_is,eF]
  clear eF
  go_enter Tryd.func21,Tryd.ntmps21
  go_wp2_with (first
    | ((with_reducible refine j4 rfl 70 (.tmp 0) rfl (clmC c) rfl ?_);intro g1 w1 hg1 hk1 hw1;have HK1:=kp hk1;have HW1:=kp hw1;have hs1:=hw1.size;clear hg1 hk1 hw1)
    | ((with_reducible refine j4 rfl 56 (.tmp 1) rfl (scC x) rfl ?_);intro g2 w2 hg2 hk2 hw2;have HK2:=kp hk2;have HKa:=kp (HK1.out.below hw2 HK1.out.lt);have HW2:=kp (HW1.out.trans (hw2.mono hs1));have hs2:=HW2.out.size
       obtain ⟨hs_0,hs_1,hs_2,hs_3,hs_4,hs_5⟩:=jW hk2
       rw [HAe.out] at hs_5
       have hcV:=(HW2.out.cell (p:=adV) (by omega)).trans HCV.out
       clear hg2 hk2 hw2))
  refine wp_region_quiet_lit (by kernel_rfl) (by kernel_rfl) ?_
  iterate 7 (go_big_quiet_step (exact lO (jV x.le h0v hle hh0 _ HWt0.out _)))
  iterate 1 (go_big_quiet_step (fail))
  refine wpQuiet_nil ?_
  intro _ hw'
  obtain ⟨nq,hw''⟩:=hw'
  subst hw''
  obtain ⟨w4,hw4⟩ : ∃ q,w2.drewN nq = q:=⟨_,rfl⟩
  have hb4 : Below w2.heap.size w2 w4:=by rw [← hw4];exact below_drewN (Below.refl _ _) _
  rw [hw4]
  have HW4:=kp (HW2.out.trans (hb4.mono hs2));have hs4:=HW4.out.size
  have HKc4:=kp (HKa.out.below hb4 HKa.out.lt);have HKs4:=kp (HK2.out.below hb4 HK2.out.lt)
  clear hw4 hb4 hcV hs_0 hs_1 hs_2 hs_3 hs_4 hs_5
  cases wt with
  | false =>
    have HE : Kept (((-1 : Int),6) = (a,cc)):=kp (by rw [← HR.out];exact (Ma.func_live (by rw [HHe.out];exact HWt0.out)).symm)
    go_wp2
    go_ret2
    have h1:=HE.out
    simp only [Prod.mk.injEq] at h1
    rw [← h1.1,← h1.2]
    exact ⟨rfl,HW4.out⟩
  | true =>
    have HWt : Kept (S.within x.le (x.live.z.getD 0 0) 32 = true):=kp (by rw [HHe.out];exact HWt0.out)
    simp only [Bool.not_true]
    go_wp2
    go_loopw [21] (fun v21 wr => ∃ i : Nat,i ≤ fn.len ∧ v21 = .int .i64 i ∧ (∀ j,j < i → Ma.at_ c.m c.lost c.ls x fn.nodes j = 0) ∧ Below w4.heap.size w4 wr) (fun v21 _ => fn.len - (intOf v21).toNat)
    case atStart => exact ⟨0,by omega,rfl,fun j hj => by omega,Below.refl _ _⟩
    case round =>
      obtain ⟨i,hi,rfl,hall,hbr⟩:=hrel
      have HAll:=kp hall;have HBr:=kp hbr
      have hsr:=hbr.size
      have HW:=kp (HW4.out.trans (hbr.mono hs4))
      have hsW:=HW.out.size
      have HKc:=kp (HKc4.out.below hbr HKc4.out.lt);have HKs:=kp (HKs4.out.below hbr HKs4.out.lt)
      clear hall hbr
      by_cases hlt : i < fn.len
      · obtain ⟨ad4,y,e4,hb4,hy,hyok,hy0,hy1,hy2,hy3⟩:=(HFn.out.nodes.keep fun _ hp => HW.out.cell (by omega)).get hlt
        have HY:=kp hyok
        obtain ⟨hfit1,hfit2⟩:=HFits.out i y hy
        have HF1:=kp hfit1;have HF2:=kp hfit2
        obtain ⟨adV',eV',_,_,hhv,hci⟩:=HX.out.live.get (k:=i) (by rw [HL.out];exact hlt)
        obtain rfl : adV = adV':=by rw [HAe.out] at eV';exact Option.some.inj eV'
        obtain ⟨hv,hhve⟩ : ∃ hv,x.live.z.getD i 0 = hv:=⟨_,rfl⟩
        rw [hhve] at hhv hci
        have HCi:=kp hci
        obtain ⟨r,hr⟩ : ∃ r,Ma.node c.m c.lost c.ls x y hv = r:=⟨_,rfl⟩
        have HRn:=kp hr
        have hat : Ma.at_ c.m c.lost c.ls x fn.nodes i = r:=by
          unfold Ma.at_
          rw [List.getD_eq_getElem?_getD (l:=fn.nodes),hy,hhve]
          exact hr
        have HAt:=kp hat
        have hfi : (i : Int) < (fn.len : Int):=by omega
        have hvi : (i : Int) < (x.live.len : Int):=by rw [HL.out];exact hfi
        obtain rfl : adF = ad4:=by rw [HEF.out] at e4;exact Option.some.inj e4
        clear e4 eV' hy hyok hfit1 hfit2 hr hat hhve hci
        go_wp2_with (first
          | ((with_reducible show Sl 9);go_must (refine j7 rfl 66 rfl (ndC ⟨0,0,0,0⟩) lY ?_);intro gN w5 hgN hk5 hb5;have HGN:=kp hgN;have HK5:=kp hk5;have HW5:=kp (HBr.out.trans (hb5.mono hsr));have hs5:=HW5.out.size;have HKc5:=kp (HKc.out.below hb5 HKc.out.lt);have HKs5:=kp (HKs.out.below hb5 HKs.out.lt);clear hgN hk5 hb5 hy0 hy1 hy2 hy3)
          | ((with_reducible show Sn);go_must (refine j5 rfl 66 (.tmp 9) (.tmp 25) rfl gN (ndC y) rfl rfl _ _ HK5.out jD rfl (jK y) ?_);intro w6 hk6 hg6 hz6
             have HK6:=kp hk6;have HW6:=kp (HW5.out.grown hg6 hs5 (fun k e => by cases e;have:=HGN.out;omega));have hs6:=HW6.out.size
             have HKc6:=kp (HKc5.out.grown hg6 (fun e => by cases e;have:=HGN.out;have:=HKc.out.lt;omega));have HKs6:=kp (HKs5.out.grown hg6 (fun e => by cases e;have:=HGN.out;have:=HKs.out.lt;omega))
             clear hk6 hg6 hz6))
        have HWx:=kp (HW4.out.trans (HW6.out.mono hs4))
        apply jR (.is (clmA c) :: .is (scA x) :: .is _ :: .is (.slice (some adV) x.live.len x.live.cap) :: .is _ :: .is _ :: .is (.int .u32 (hv : Int)) :: .is (ndA y) :: .is (.int .i64 (r : Int)) :: .is _ :: [])
          [[],[],[],[(2,28)],[],[(3,29),(4,30)],[(5,31)],[],[(0,26),(1,27),(6,32),(7,33)],[(8,34)]]
          [(0,26),(1,27),(2,28),(3,29),(4,30),(5,31),(6,32),(7,33),(8,34),(9,10)] (by kernel_rfl) (by kernel_rfl)
        case hob =>
          refine ⟨?o0,?o1,?o2,?o3,?o4,?o5,?o6,?o7,?o8,?o9,trivial⟩
          case o0 =>
            intro W hW;change wpList _ _ _ _ _ _
            go_must (refine j6 rfl 70 (.tmp 3) rfl g1 rfl _ (clmC c) _ (HKc6.out.below hW HKc6.out.lt) Tryd.underlying70 rfl qU ?_)
            go_wp2;exact j3 rfl rfl rfl
          case o1 =>
            intro W hW;change wpList _ _ _ _ _ _
            go_must (refine j6 rfl 56 (.tmp 4) rfl g2 rfl _ (scC x) _ (HKs6.out.below hW HKs6.out.lt) Tryd.underlying56 rfl zC ?_)
            go_wp2;exact j3 rfl rfl rfl
          case o2 => intro W hW;change wpList _ _ _ _ _ _;go_wp2;exact j3 rfl rfl rfl
          case o3 =>
            intro W hW;rintro _ rfl;change wpList _ _ _ _ _ _
            have hq:=(HKs6.out.below hW HKs6.out.lt).cell 5
            simp only [scC,List.getElem?_cons_zero,List.getElem?_cons_succ] at hq
            rw [HAe.out] at hq
            go_wp2;exact j3 rfl rfl rfl
          case o4 => intro W hW;change wpList _ _ _ _ _ _;go_wp2;exact j3 rfl rfl rfl
          case o5 => intro W hW;rintro _ rfl;rintro _ rfl;change wpList _ _ _ _ _ _;go_wp2;exact j3 rfl rfl rfl
          case o6 =>
            intro W hW;rintro _ rfl;change wpList _ _ _ _ _ _
            have hWw : Below w.heap.size w W:=HWx.out.trans (hW.mono HWx.out.size)
            have hq:=(hWw.cell (p:=adV.add i) (by rw [add_block];omega)).trans HCi.out
            go_wp2;exact j3 rfl rfl rfl
          case o7 =>
            intro W hW;change wpList _ _ _ _ _ _
            go_must (refine j6 rfl 66 (.tmp 9) rfl gN rfl _ (ndC y) _ (HK6.out.below hW HK6.out.lt) Tryd.underlying66 rfl jD ?_)
            go_wp2;exact j3 rfl rfl rfl
          case o8 =>
            intro W hW;rintro _ rfl;rintro _ rfl;rintro _ rfl;rintro _ rfl;change wpList _ _ _ _ _ _
            go_wp2_with fail
            refine (may_node B c x y HY.out hv hhv W (HC.out.below ((HWx.out.trans (hW.mono HWx.out.size)).mono hB)) (HX.out.below ((HWx.out.trans (hW.mono HWx.out.size)).mono hB)) (Nat.le_trans hB (HWx.out.trans (hW.mono HWx.out.size)).size) HF1.out HF2.out r HRn.out).mono ?_
            rintro e w2 ⟨rfl,hb2⟩
            have HB2:=kp hb2;clear hb2
            go_wp2
            exact jE rfl rfl rfl HB2.out rfl
          case o9 => intro W hW;rintro _ rfl;change wpList _ _ _ _ _ _;go_wp2;exact j3 rfl rfl rfl
        case hend =>
          intro W hW;rintro _ rfl;rintro _ rfl;rintro _ rfl;rintro _ rfl;rintro _ rfl;rintro _ rfl;rintro _ rfl;rintro _ rfl;rintro _ rfl;rintro _ rfl
          simp only [given]
          have HB7:=kp (HW6.out.trans (hW.mono hs6))
          have HWy:=kp (HWx.out.trans (hW.mono HWx.out.size))
          clear hW
          by_cases h0 : r = 0
          · have h0b : ((r : Int) != 0) = false:=by rw [h0];rfl
            have HR0:=kp h0
            clear h0
            go_wp2
            go_roundw
            case rel => exact ⟨i + 1,by omega,by go_num,(fun j hj => by
              by_cases e : j = i
              · subst e;rw [HAt.out];exact HR0.out
              · exact HAll.out j (by omega)),HB7.out⟩
            case measure => simp [intOf];omega
          · have h0b : ((r : Int) != 0) = true:=by simp;omega
            have HE : Kept (((i : Int),r) = (a,cc)):=kp (by
              rw [← HR.out,Ma.func_hit HWt.out (by rw [HFn.out.nodes.1.len];exact hlt) HAll.out (by rw [HAt.out];exact h0),HAt.out])
            clear h0
            go_wp2
            go_ret2
            have h1:=HE.out
            simp only [Prod.mk.injEq] at h1
            rw [← h1.1,← h1.2]
            exact ⟨rfl,HWy.out⟩
      · have HE : Kept (((0 : Int),0) = (a,cc)):=kp (by
          rw [← HR.out]
          exact (Ma.func_none HWt.out (fun j hj => HAll.out j (by rw [HFn.out.nodes.1.len] at hj;omega))).symm)
        have hge : fn.len ≤ i:=by omega
        clear hlt
        go_wp2
        go_ret2
        have h1:=HE.out
        simp only [Prod.mk.injEq] at h1
        rw [← h1.1,← h1.2]
        exact ⟨rfl,HW.out⟩
end Go.Proofs.YtoekiejipdabmaaDoor
namespace Go.Proofs.YtoekiejipdabmaaDoor.M
structure Th where
  stack : List (Nat × Nat)
  slots : List Nat
instance : Inhabited Th:=⟨⟨[],[]⟩⟩
structure Cf where
  ths : List Th
  owners : List Nat
def start : Cf:=⟨[⟨[(0,0)],List.replicate 8 0⟩],List.replicate 16 0⟩
def th (c : Cf) (t : Nat) : Th:=c.ths.getD t default
def livesN (c : Cf) (t : Nat) : Bool:=decide (0 < (th c t).stack.length)
def lives (c : Cf) (t : Int) : Bool:=decide (0 ≤ t) && livesN c t.toNat
def top (s : List (Nat × Nat)) : Nat × Nat:=s.getD (s.length - 1) (0,0)
def nodeAt (p : Pg) (x : Nat × Nat) : Nd:=(p.fns.getD x.1 default).nodes.getD x.2 default
def node (p : Pg) (c : Cf) (t : Nat) : Nd:=nodeAt p (top (th c t).stack)
def enabledN (p : Pg) (c : Cf) (t : Nat) : Bool :=
  livesN c t &&
    (if (node p c t).kind = 3 then decide (c.owners.getD (node p c t).arg.toNat 0 = 0)
     else if (node p c t).kind = 6 then !lives c (((th c t).slots.getD (node p c t).arg.toNat 0 : Int) - 1)
     else if (node p c t).kind = 5 then decide (c.ths.length < 8) else true)
def enabled (p : Pg) (c : Cf) (t : Int) : Bool:=decide (0 ≤ t) && enabledN p c t.toNat
def goOn (s : List (Nat × Nat)) (n : Nat) : List (Nat × Nat):=s.set (s.length - 1) ((top s).1,n)
def act (c : Cf) (t : Nat) (n : Nd) (way : Bool) : Cf :=
  if n.kind = 9 then ⟨c.ths.set t ⟨(th c t).stack.take ((th c t).stack.length - 1),(th c t).slots⟩,c.owners⟩
  else if n.kind = 3 then ⟨c.ths.set t ⟨goOn (th c t).stack n.next.toNat,(th c t).slots⟩,c.owners.set n.arg.toNat (t + 1)⟩
  else if n.kind = 4 then ⟨c.ths.set t ⟨goOn (th c t).stack n.next.toNat,(th c t).slots⟩,if c.owners.getD n.arg.toNat 0 = t + 1 then c.owners.set n.arg.toNat 0 else c.owners⟩
  else if n.kind = 5 then ⟨c.ths.set t ⟨goOn (th c t).stack n.next.toNat,(th c t).slots.set n.alt.toNat (c.ths.length + 1)⟩ ++ [⟨[(n.arg.toNat,0)],List.replicate 8 0⟩],c.owners⟩
  else if n.kind = 7 then ⟨c.ths.set t ⟨goOn (th c t).stack n.next.toNat ++ [(n.arg.toNat,0)],(th c t).slots⟩,c.owners⟩
  else if n.kind = 8 ∧ way = true then ⟨c.ths.set t ⟨goOn (th c t).stack n.alt.toNat,(th c t).slots⟩,c.owners⟩
  else ⟨c.ths.set t ⟨goOn (th c t).stack n.next.toNat,(th c t).slots⟩,c.owners⟩
def step (p : Pg) (c : Cf) (t : Int) (way : Bool) : Cf:=if enabled p c t = true then act c t.toNat (node p c t.toNat) way else c
def heldTo (o : List Nat) (t : Nat) : Nat → Nat
  | 0 => 0
  | k + 1 => if o.getD k 0 = t + 1 then heldTo o t k ||| 2 ^ k else heldTo o t k
def held (c : Cf) (t : Int) : Nat:=if 0 ≤ t ∧ t < (c.ths.length : Int) then heldTo c.owners t.toNat 16 else 0
def Linked (p : Pg) (l : List Nat) : Prop:=∀ i a b,l[i]? = some a → l[i + 1]? = some b → Q.calls p a b
structure Good (p : Pg) (c : Cf) : Prop where
  one : 1 ≤ c.ths.length
  most : c.ths.length ≤ 8
  owns : c.owners.length = 16
  own : ∀ o ∈ c.owners,o ≤ c.ths.length
  eight : ∀ x ∈ c.ths,x.slots.length = 8
  slot : ∀ x ∈ c.ths,∀ s ∈ x.slots,s ≤ 8
  spot : ∀ x ∈ c.ths,∀ f ∈ x.stack,∃ fn,p.fns[f.1]? = some fn ∧ f.2 < fn.nodes.length
  chain : ∀ x ∈ c.ths,Linked p (x.stack.map (·.1))
theorem fine_node {p : Pg} (hf : Fine p) {f i : Nat} {fn : Fn} {x : Nd} (hfn : p.fns[f]? = some fn) (hx : fn.nodes[i]? = some x) : Q.may p.g p.l p.s p.len x fn.nodes.length = true :=
  (Q.fine_fn hfn (hf.nodes f (List.getElem?_eq_some_iff.1 hfn).1)).2.2 i x hx
theorem fine_len {p : Pg} (hf : Fine p) {f : Nat} {fn : Fn} (hfn : p.fns[f]? = some fn) : 0 < fn.nodes.length :=
  (Q.fine_fn hfn (hf.nodes f (List.getElem?_eq_some_iff.1 hfn).1)).1
structure Fit (p : Pg) (x : Nd) (nodes : Nat) : Prop where
  kind : 0 ≤ x.kind ∧ x.kind ≤ 9
  next : 0 ≤ x.next
  nextLt : x.kind ≠ 9 → x.next < nodes
  alt : 0 ≤ x.alt
  arg : 0 ≤ x.arg
  lock : x.kind = 3 ∨ x.kind = 4 → x.arg < 16
  join : x.kind = 6 → x.arg < 8
  spawn : x.kind = 5 → x.arg < p.len ∧ x.alt < 8
  call : x.kind = 7 → x.arg < p.len
  branch : x.kind = 8 → x.alt < nodes
theorem fit_of {p : Pg} (hc : Q.Counts p) {x : Nd} {nodes : Nat} (h : Q.may p.g p.l p.s p.len x nodes = true) (h0 : 0 < nodes) : Fit p x nodes:=by
  have hl:=hc.l;have hs:=hc.s
  unfold Q.may at h
  simp only [Bool.and_eq_true,decide_eq_true_eq,List.all_eq_true,List.mem_range] at h
  obtain ⟨hr,hall⟩:=h
  have hk : 0 ≤ x.kind ∧ x.kind ≤ 9:=by
    unfold Q.row at hr
    by_cases hb : x.kind < 0 ∨ 9 < x.kind
    · rw [if_pos hb] at hr;exact absurd rfl hr
    · omega
  have a0:=hall 0 (by omega)
  have a1:=hall 1 (by omega)
  have a2:=hall 2 (by omega)
  simp only [Q.fields,List.getD_cons_zero,List.getD_cons_succ] at a0 a1 a2
  have hrow : Q.row x.kind = Q.rows.getD x.kind.toNat []:=by unfold Q.row;rw [if_neg (by omega)]
  rw [hrow] at a0 a1 a2
  obtain ⟨k,hkk⟩ : ∃ k : Nat,x.kind = (k : Int):=⟨x.kind.toNat,by omega⟩
  rw [hkk] at a0 a1 a2
  simp only [Int.toNat_natCast] at a0 a1 a2
  have hmax : max (nodes : Int) 1 = nodes:=by omega
  have hk9 : k ≤ 9:=by omega
  have cases_ : k = 0 ∨ k = 1 ∨ k = 2 ∨ k = 3 ∨ k = 4 ∨ k = 5 ∨ k = 6 ∨ k = 7 ∨ k = 8 ∨ k = 9:=by omega
  rcases cases_ with rfl | rfl | rfl | rfl | rfl | rfl | rfl | rfl | rfl | rfl <;>
    simp [Q.rows,Q.size,hmax] at a0 a1 a2 <;>
    (refine ⟨hk,by omega,fun h => by omega,by omega,by omega,fun h => by omega,fun h => by omega,fun h => by omega,fun h => by omega,fun h => by omega⟩)
theorem th_mem {c : Cf} {t : Nat} (h : t < c.ths.length) : th c t ∈ c.ths:=by
  unfold th;rw [List.getD_eq_getElem?_getD,List.getElem?_eq_getElem h];exact List.getElem_mem h
theorem th_at {c : Cf} {t : Nat} (h : t < c.ths.length) : c.ths[t]? = some (th c t):=by
  unfold th;rw [List.getD_eq_getElem?_getD,List.getElem?_eq_getElem h];rfl
theorem th_is {c : Cf} {t : Nat} {x : Th} (h : c.ths[t]? = some x) : th c t = x:=by unfold th;rw [List.getD_eq_getElem?_getD,h];rfl
theorem lives_lt {c : Cf} {t : Nat} (h : livesN c t = true) : t < c.ths.length:=by
  rcases Nat.lt_or_ge t c.ths.length with h1 | h1
  · exact h1
  · exfalso
    unfold livesN th at h
    rw [List.getD_eq_getElem?_getD,List.getElem?_eq_none h1] at h
    exact absurd h (by decide)
theorem top_mem {s : List (Nat × Nat)} (h : 0 < s.length) : top s ∈ s:=by
  unfold top;rw [List.getD_eq_getElem?_getD,List.getElem?_eq_getElem (by omega)];exact List.getElem_mem _
theorem top_at {s : List (Nat × Nat)} (h : 0 < s.length) : s[s.length - 1]? = some (top s):=by
  unfold top;rw [List.getD_eq_getElem?_getD,List.getElem?_eq_getElem (by omega)];rfl
theorem enabled_lives {p : Pg} {c : Cf} {t : Nat} (h : enabledN p c t = true) : livesN c t = true:=by
  unfold enabledN at h;rw [Bool.and_eq_true] at h;exact h.1
theorem node_is {p : Pg} {c : Cf} (hg : Good p c) {t : Nat} (h : livesN c t = true) :
    ∃ fn,p.fns[(top (th c t).stack).1]? = some fn ∧ (top (th c t).stack).2 < fn.nodes.length ∧ fn.nodes[(top (th c t).stack).2]? = some (node p c t):=by
  have ht:=lives_lt h
  have hs : 0 < (th c t).stack.length:=by unfold livesN at h;simpa using h
  obtain ⟨fn,h1,h2⟩:=hg.spot _ (th_mem ht) _ (top_mem hs)
  refine ⟨fn,h1,h2,?_⟩
  unfold node nodeAt
  have e : p.fns.getD (top (th c t).stack).1 default = fn:=by rw [List.getD_eq_getElem?_getD,h1];rfl
  rw [e,List.getD_eq_getElem?_getD,List.getElem?_eq_getElem h2];rfl
theorem node_fit {p : Pg} (hf : Fine p) {c : Cf} (hg : Good p c) {t : Nat} (h : livesN c t = true) {fn : Fn} (hfn : p.fns[(top (th c t).stack).1]? = some fn) : Fit p (node p c t) fn.nodes.length:=by
  obtain ⟨fn',h1,h2,h3⟩:=node_is hg h
  rw [hfn] at h1;cases h1
  exact fit_of hf.counts (fine_node hf hfn h3) (fine_len hf hfn)
theorem uI : ∀ (n : Nat) (l : List Nat),l.Nodup → (∀ x ∈ l,x < n) → l.length ≤ n
  | 0,l,_,h => by
    cases l with
    | nil => simp
    | cons x l => exact absurd (h x (by simp)) (by omega)
  | n + 1,l,hn,h => by
    by_cases hm : n ∈ l
    · have:=uI n (l.erase n) (hn.erase n) fun x hx => by
        have h1:=(hn.mem_erase_iff).1 hx
        have:=h x h1.2
        have:=h1.1
        omega
      rw [List.length_erase_of_mem hm] at this
      omega
    · have:=uI n l hn fun x hx => by
        have:=h x hx
        have : x ≠ n:=fun e => hm (e ▸ hx)
        omega
      omega
theorem vQ {p : Pg} (hf : Fine p) (hl : p.fns.length = p.len) {s : List Nat} (hc : Linked p s) :
    ∀ (d i a b : Nat),s[i]? = some a → s[i + d + 1]? = some b → Q.Reach (Q.calls p) p.fns.length a b
  | 0,i,a,b,ha,hb => .one (hc i a b ha hb)
  | d + 1,i,a,b,ha,hb => by
    have hlt : i + d + 1 + 1 < s.length:=by
      have:=(List.getElem?_eq_some_iff.1 hb).1;omega
    have hm:=List.getElem?_eq_getElem (show i + 1 < s.length by omega)
    have h1:=hc i a _ ha hm
    refine .more h1 (x6 hf hl h1) (vQ hf hl hc d (i + 1) _ b hm ?_)
    rw [show i + 1 + d + 1 = i + (d + 1) + 1 by omega];exact hb
theorem high {p : Pg} (hf : Fine p) (hl : p.fns.length = p.len) {c : Cf} (hg : Good p c) {x : Th} (hx : x ∈ c.ths) : x.stack.length ≤ p.fns.length:=by
  have:=uI p.fns.length (x.stack.map (·.1)) ?_ ?_
  · simpa using this
  · rw [List.nodup_iff_pairwise_ne,List.pairwise_iff_getElem]
    intro i j hi hj hij e
    have hr:=vQ hf hl (hg.chain x hx) (j - i - 1) i _ _ (List.getElem?_eq_getElem hi) (by rw [show i + (j - i - 1) + 1 = j by omega];exact List.getElem?_eq_getElem hj)
    rw [e] at hr
    obtain ⟨f,hfm,hfe⟩:=List.mem_map.1 (List.getElem_mem hj)
    obtain ⟨fn,h1,_⟩:=hg.spot x hx f hfm
    rw [← hfe] at hr
    exact zL hf hl _ (List.getElem?_eq_some_iff.1 h1).1 hr
  · intro y hy
    obtain ⟨f,hfm,rfl⟩:=List.mem_map.1 hy
    obtain ⟨fn,h1,_⟩:=hg.spot x hx f hfm
    exact (List.getElem?_eq_some_iff.1 h1).1
theorem good_start {p : Pg} (hf : Fine p) : Good p start:=by
  have h1:=hf.counts.f.1
  refine ⟨by simp [start],by simp [start],by simp [start],fun o ho => ?_,fun x hx => ?_,fun x hx s hs => ?_,fun x hx f hfm => ?_,fun x hx => ?_⟩
  · have:=List.eq_of_mem_replicate ho;omega
  · have e:=List.mem_singleton.1 hx;subst e;rfl
  · have e:=List.mem_singleton.1 hx;subst e
    have:=List.eq_of_mem_replicate hs;omega
  · have e:=List.mem_singleton.1 hx;subst e
    have e:=List.mem_singleton.1 hfm;subst e
    have h2:=List.getElem?_eq_getElem h1
    exact ⟨_,h2,fine_len hf h2⟩
  · have e:=List.mem_singleton.1 hx;subst e
    intro i a b _ hb
    simp at hb
theorem goOn_len (s : List (Nat × Nat)) (n : Nat) : (goOn s n).length = s.length:=by unfold goOn;rw [List.length_set]
theorem goOn_fst (s : List (Nat × Nat)) (n : Nat) : (goOn s n).map (·.1) = s.map (·.1):=by
  apply List.ext_getElem?
  intro i
  unfold goOn
  rw [List.getElem?_map,List.getElem?_map,List.getElem?_set]
  by_cases e : s.length - 1 = i
  · subst e
    rw [if_pos rfl]
    by_cases h : s.length - 1 < s.length
    · rw [if_pos h,List.getElem?_eq_getElem h]
      simp [top,List.getD_eq_getElem?_getD,List.getElem?_eq_getElem h]
    · rw [if_neg h,List.getElem?_eq_none (by omega)]
  · rw [if_neg e]
theorem goOn_mem {s : List (Nat × Nat)} {n : Nat} {f : Nat × Nat} (h : f ∈ goOn s n) : f ∈ s ∨ f = ((top s).1,n):=List.mem_or_eq_of_mem_set h
theorem qT {p : Pg} {c : Cf} (hg : Good p c) (t : Nat) (s : List (Nat × Nat)) (sl ow : List Nat) (h8 : sl.length = 8) (hs8 : ∀ x ∈ sl,x ≤ 8) (hsp : ∀ f ∈ s,∃ fn,p.fns[f.1]? = some fn ∧ f.2 < fn.nodes.length)
    (hch : Linked p (s.map (·.1))) (h16 : ow.length = 16) (how : ∀ o ∈ ow,o ≤ c.ths.length) : Good p ⟨c.ths.set t ⟨s,sl⟩,ow⟩:=by
  have key : ∀ x ∈ c.ths.set t ⟨s,sl⟩,x ∈ c.ths ∨ x = ⟨s,sl⟩:=fun x hx => List.mem_or_eq_of_mem_set hx
  refine ⟨by simpa using hg.one,by simpa using hg.most,h16,by simpa using how,fun x hx => ?_,fun x hx => ?_,fun x hx => ?_,fun x hx => ?_⟩
  · rcases key x hx with h | rfl
    · exact hg.eight x h
    · exact h8
  · rcases key x hx with h | rfl
    · exact hg.slot x h
    · exact hs8
  · rcases key x hx with h | rfl
    · exact hg.spot x h
    · exact hsp
  · rcases key x hx with h | rfl
    · exact hg.chain x h
    · exact hch
theorem yV {l : List Nat} {k v b : Nat} (h : ∀ x ∈ l,x ≤ b) (hv : v ≤ b) : ∀ x ∈ l.set k v,x ≤ b:=fun x hx => by
  rcases List.mem_or_eq_of_mem_set hx with h1 | rfl
  · exact h x h1
  · exact hv
theorem LJ {p : Pg} {l : List Nat} (h : Linked p l) {y : Nat} (hy : ∀ a,l[l.length - 1]? = some a → Q.calls p a y) : Linked p (l ++ [y]):=by
  intro i a b ha hb
  have hlt:=(List.getElem?_eq_some_iff.1 hb).1
  simp only [List.length_append,List.length_singleton] at hlt
  rw [List.getElem?_append_left (by omega)] at ha
  by_cases e : i + 1 < l.length
  · rw [List.getElem?_append_left e] at hb
    exact h i a b ha hb
  · have e2 : i = l.length - 1:=by omega
    rw [List.getElem?_append_right (by omega)] at hb
    have e3 : i + 1 - l.length = 0:=by omega
    rw [e3] at hb
    simp at hb
    subst hb
    exact hy a (by rw [← e2];exact ha)
theorem good_act {p : Pg} (hf : Fine p) (hl : p.fns.length = p.len) {c : Cf} (hg : Good p c) {t : Nat} (he : enabledN p c t = true) (way : Bool) : Good p (act c t (node p c t) way):=by
  have hlv:=enabled_lives he
  have ht:=lives_lt hlv
  have hm:=th_mem ht
  have hs0 : 0 < (th c t).stack.length:=by unfold livesN at hlv;simpa using hlv
  obtain ⟨fn,hfn,hin,hnd⟩:=node_is hg hlv
  have hfit:=node_fit hf hg hlv hfn
  obtain ⟨n,hn⟩ : ∃ n,node p c t = n:=⟨_,rfl⟩
  rw [hn] at hfit hnd
  have e8:=hg.eight _ hm
  have s8:=hg.slot _ hm
  have spot : ∀ m : Nat,m < fn.nodes.length → ∀ f ∈ goOn (th c t).stack m,∃ fn,p.fns[f.1]? = some fn ∧ f.2 < fn.nodes.length:=fun m hm2 f hfm => by
    rcases goOn_mem hfm with h | rfl
    · exact hg.spot _ hm f h
    · exact ⟨fn,hfn,hm2⟩
  have chain : ∀ m : Nat,Linked p ((goOn (th c t).stack m).map (·.1)):=fun m => by rw [goOn_fst];exact hg.chain _ hm
  have hk:=hfit.kind
  have h0:=hfit.next;have h1:=hfit.nextLt;have ha:=hfit.arg
  unfold act
  rw [hn]
  by_cases k9 : n.kind = 9
  · rw [if_pos k9]
    refine qT hg t _ _ _ e8 s8 (fun f hfm => hg.spot _ hm f (List.mem_of_mem_take hfm)) ?_ hg.owns hg.own
    intro i a b hA hB
    rw [List.map_take] at hA hB
    have hlt:=(List.getElem?_eq_some_iff.1 hB).1
    rw [List.length_take] at hlt
    rw [List.getElem?_take,if_pos (by omega)] at hA hB
    exact hg.chain _ hm i a b hA hB
  rw [if_neg k9]
  have hnx : n.next.toNat < fn.nodes.length:=by have:=h1 k9;omega
  by_cases k3 : n.kind = 3
  · rw [if_pos k3]
    exact qT hg t _ _ _ e8 s8 (spot _ hnx) (chain _) (by rw [List.length_set];exact hg.owns) (yV hg.own (by omega))
  rw [if_neg k3]
  by_cases k4 : n.kind = 4
  · rw [if_pos k4]
    refine qT hg t _ _ _ e8 s8 (spot _ hnx) (chain _) ?_ ?_
    · split
      · rw [List.length_set];exact hg.owns
      · exact hg.owns
    · split
      · exact yV hg.own (by omega)
      · exact hg.own
  rw [if_neg k4]
  by_cases k5 : n.kind = 5
  · rw [if_pos k5]
    have h8 : c.ths.length < 8:=by
      unfold enabledN at he
      rw [hn,if_neg k3,if_neg (by omega),if_pos k5] at he
      rw [Bool.and_eq_true,decide_eq_true_eq] at he
      exact he.2
    have hG:=qT hg t (goOn (th c t).stack n.next.toNat) ((th c t).slots.set n.alt.toNat (c.ths.length + 1)) c.owners (by rw [List.length_set];exact e8) (yV s8 (by omega)) (spot _ hnx) (chain _) hg.owns hg.own
    have hsp:=hfit.spawn k5
    have h2 : n.arg.toNat < p.fns.length:=by omega
    have h3:=List.getElem?_eq_getElem h2
    refine ⟨by simp,by simp;omega,hg.owns,fun o ho => ?_,fun x hx => ?_,fun x hx => ?_,fun x hx => ?_,fun x hx => ?_⟩
    · have:=hg.own o ho
      simp;omega
    all_goals rcases List.mem_append.1 hx with h | h
    · exact hG.eight x h
    · have e:=List.mem_singleton.1 h;subst e;rfl
    · exact hG.slot x h
    · have e:=List.mem_singleton.1 h;subst e
      intro s hs
      have:=List.eq_of_mem_replicate hs;omega
    · exact hG.spot x h
    · have e:=List.mem_singleton.1 h;subst e
      intro f hfm
      have e:=List.mem_singleton.1 hfm;subst e
      exact ⟨_,h3,fine_len hf h3⟩
    · exact hG.chain x h
    · have e:=List.mem_singleton.1 h;subst e
      intro i a b _ hb
      simp at hb
  rw [if_neg k5]
  by_cases k7 : n.kind = 7
  · rw [if_pos k7]
    have hcl : Q.calls p (top (th c t).stack).1 n.arg.toNat:=⟨fn,hfn,n,List.mem_of_getElem? hnd,k7,by omega⟩
    have h2:=x6 hf hl hcl
    have h3:=List.getElem?_eq_getElem h2
    refine qT hg t _ _ _ e8 s8 (fun f hfm => ?_) ?_ hg.owns hg.own
    · rcases List.mem_append.1 hfm with h | h
      · exact spot _ hnx f h
      · have e:=List.mem_singleton.1 h;subst e
        exact ⟨_,h3,fine_len hf h3⟩
    · rw [List.map_append]
      refine LJ (chain _) fun a ha2 => ?_
      rw [goOn_fst,List.length_map,List.getElem?_map,top_at hs0] at ha2
      cases ha2
      exact hcl
  rw [if_neg k7]
  by_cases k8 : n.kind = 8 ∧ way = true
  · rw [if_pos k8]
    have:=hfit.branch k8.1
    have:=hfit.alt
    exact qT hg t _ _ _ e8 s8 (spot _ (by omega)) (chain _) hg.owns hg.own
  · rw [if_neg k8]
    exact qT hg t _ _ _ e8 s8 (spot _ hnx) (chain _) hg.owns hg.own
theorem good_step {p : Pg} (hf : Fine p) (hl : p.fns.length = p.len) {c : Cf} (hg : Good p c) (t : Int) (way : Bool) : Good p (step p c t way):=by
  unfold step
  split
  · rename_i h
    unfold enabled at h
    rw [Bool.and_eq_true] at h
    exact good_act hf hl hg h.2 way
  · exact hg
end Go.Proofs.YtoekiejipdabmaaDoor.M
namespace Go.Proofs.YtoekiejipdabmaaDoor
open Go.RowKit
theorem gTab : Tryd.prog.globalNamed "math/bits.deBruijn32tab" = some 0:=by kernel_rfl
theorem gTabT : (Tryd.prog.globals[0]?).map (·.type) = some 147:=by kernel_rfl
theorem cellsTab : Tryd.prog.cellsOf 147 = 32:=by kernel_rfl
theorem cellsByte : Tryd.prog.cellsOf 5 = 1:=by kernel_rfl
theorem laid_is : (Rows.laid_math_bits_deBruijn32tab : DataW Unit) = Lib.tabData .u8 (bruijn.map fun n : Nat => (n : Int)):=by kernel_rfl
theorem zI {W : World} (h : laidMetH Tryd.prog [("math/bits.deBruijn32tab",Rows.laid_math_bits_deBruijn32tab)] W) : Tab W:=by
  have h2 : laidMet Tryd.prog [("math/bits.deBruijn32tab",Rows.laid_math_bits_deBruijn32tab)] W:=h
  rw [laid_is] at h2
  have ht:=Lib.tabIs_of_head (rest:=[]) gTab gTabT Tryd.underlying147 Tryd.underlying5 cellsByte cellsTab h2
  refine ⟨rfl,fun _ => ⟨_,rfl,by decide,fun k hk => ?_⟩⟩
  have hadd:=q5 0 k
  have hkl : k < bruijn.length:=hk
  rw [hadd,ht.cell gTab k (by rw [List.length_map];exact hkl),List.getElem?_eq_getElem hkl,List.getD_eq_getElem?_getD,List.getElem?_map,List.getElem?_eq_getElem hkl]
  rfl
noncomputable def laidWorld (os : Os) : World :=
  { World.holding Tryd.prog os ⟨#[],#[],[]⟩ with heap:=(World.holding Tryd.prog os ⟨#[],#[],[]⟩).heap.modify 0 fun
      | .cells _ t frozen => .cells (bruijn.map byteV).toArray t frozen
      | o => o }
end Go.Proofs.YtoekiejipdabmaaDoor
