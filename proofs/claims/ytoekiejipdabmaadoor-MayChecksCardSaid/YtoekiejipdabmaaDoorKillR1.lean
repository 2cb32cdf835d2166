/- The document's own answer of layer 14, walked: Gather. -/
import Derived.Test.YtoekiejipdabmaaDoorPk5
import Derived.Test.YtoekiejipdabmaaDoorGraphRef4
import Derived.Test.YtoekiejipdabmaaDoorPk3
import Derived.Test.YtoekiejipdabmaaDoorPk10
namespace Go.Proofs.YtoekiejipdabmaaDoor
open Go.RowKit
def Fact.nodeNewK (K : Nat) : Fact :=
  ⟨fun v W => ∃ g,v = .pointer (some ⟨g,0,none⟩) ∧ Blk W g 66 (ndC ⟨0,0,0,0⟩) ∧ K ≤ g,fun _ _ _ hb ⟨g,h1,h2,h3⟩ => ⟨g,h1,h2.below hb h2.lt,h3⟩⟩
theorem XJ {p : Pg} {w w' : World} {B : Nat} (h : p.Ok w B) (hb : Below w.heap.size w w') (hB : B ≤ w.heap.size) : p.Ok w' w.heap.size:=(h.below (hb.mono hB)).more hB
theorem LE {w W : World} {i : Nat} {ad : Addr} {x : Nd} (h : ad.block < w.heap.size ∧ w.cell? (ad.add (i * 4)) = some (.int .i64 x.kind) ∧ w.cell? ⟨(ad.add (i * 4)).block,(ad.add (i * 4)).off + 1,none⟩ = some (.int .i64 x.arg) ∧
      w.cell? ⟨(ad.add (i * 4)).block,(ad.add (i * 4)).off + 2,none⟩ = some (.int .i64 x.next) ∧ w.cell? ⟨(ad.add (i * 4)).block,(ad.add (i * 4)).off + 3,none⟩ = some (.int .i64 x.alt)) (hW : Below w.heap.size w W) :
    W.cell? (ad.add (i * 4)) = some (.int .i64 x.kind) ∧ W.cell? ⟨(ad.add (i * 4)).block,(ad.add (i * 4)).off + 1,none⟩ = some (.int .i64 x.arg) ∧
      W.cell? ⟨(ad.add (i * 4)).block,(ad.add (i * 4)).off + 2,none⟩ = some (.int .i64 x.next) ∧ W.cell? ⟨(ad.add (i * 4)).block,(ad.add (i * 4)).off + 3,none⟩ = some (.int .i64 x.alt):=by
  have hb : (ad.add (i * 4)).block < w.heap.size:=by rw [add_block];exact h.1
  exact ⟨(hW.cell hb).trans h.2.1,(hW.cell (p:=⟨(ad.add (i * 4)).block,(ad.add (i * 4)).off + 1,none⟩) hb).trans h.2.2.1,(hW.cell (p:=⟨(ad.add (i * 4)).block,(ad.add (i * 4)).off + 2,none⟩) hb).trans h.2.2.2.1,(hW.cell (p:=⟨(ad.add (i * 4)).block,(ad.add (i * 4)).off + 3,none⟩) hb).trans h.2.2.2.2⟩
open Classical in
noncomputable def setTo (P : Nat → Prop) (n : Nat) : List Nat:=(List.range n).filter fun id => decide (P id)
theorem XY (P : Nat → Prop) : setTo P 32 = setL P:=rfl
theorem XW {P : Nat → Prop} {n : Nat} (h : P n) : setTo P (n + 1) = setTo P n ++ [n]:=by
  unfold setTo
  rw [List.range_succ,List.filter_append]
  simp [h]
theorem setTo_no {P : Nat → Prop} {n : Nat} (h : ¬ P n) : setTo P (n + 1) = setTo P n:=by
  unfold setTo
  rw [List.range_succ,List.filter_append]
  simp [h]
theorem XX (P : Nat → Prop) (n : Nat) : (setTo P n).length ≤ n:=by
  unfold setTo
  have:=List.length_filter_le (fun id => @decide (P id) (Classical.propDecidable _)) (List.range n)
  simpa using this
def OwnDo (p : Pg) (a b : Int) (y id : Nat) : Prop:=∃ fn,p.fns[y]? = some fn ∧ ∃ x ∈ fn.nodes,Tl a b x id
open Classical in
theorem QU {p : Pg} {a b : Int} {f id : Nat} : MayDo p a b f id ↔ ∃ y ∈ reachL p (fun x => x ∈ [f]),OwnDo p a b y id:=by
  have key : ∀ g,g ∈ reachL p (fun x => x ∈ [f]) ↔ Comes p (fun x => x = f) g:=fun g => by
    unfold reachL trueTo
    rw [List.mem_filter,List.mem_range,decide_eq_true_eq,LX (F':=fun x => x = f) (fun j => List.mem_singleton)]
    constructor
    · exact fun h => h.2
    · exact fun h => ⟨h.1,h⟩
  constructor
  · rintro ⟨g,fn,h1,h2,h3⟩
    exact ⟨g,(key g).2 h1,fn,h2,h3⟩
  · rintro ⟨g,h1,fn,h2,h3⟩
    exact ⟨g,fn,(key g).1 h1,h2,h3⟩
theorem Y9 {p : Pg} {F : Nat → Prop} {y : Nat} (h : y ∈ reachL p F) : y < p.len:=by
  unfold reachL trueTo at h
  exact List.mem_range.1 (List.mem_filter.1 h).1
def xH (b : Bool) (P : Prop) : Prop:=b = true ↔ P
theorem xH.congr {b : Bool} {P P' : Prop} (h : xH b P) (hp : P ↔ P') : xH b P':=h.trans hp
theorem tells_or {a b : Int} {x : Nd} {k : Nat} {is : Bool} {A : Prop} (h : xH is A) : xH (is || ((x.kind == a || x.kind == b) && x.arg == (k : Int))) (A ∨ Tl a b x k):=by
  unfold xH Tl at *
  rw [Bool.or_eq_true,Bool.and_eq_true,Bool.or_eq_true,beq_iff_eq,beq_iff_eq,beq_iff_eq,h]
theorem own_all {p : Pg} {a b : Int} {rl : List Nat} {i y k j : Nat} {fn : Fn} (hy : rl[i]? = some y) (hfn : p.fns[y]? = some fn) (hj : fn.nodes.length ≤ j) : ((∃ z ∈ rl.take i,OwnDo p a b z k) ∨ ∃ x ∈ fn.nodes.take j,Tl a b x k) ↔ ∃ z ∈ rl.take (i + 1),OwnDo p a b z k:=by
  rw [List.take_of_length_le hj,List.take_add_one,hy]
  simp only [Option.toList_some,List.mem_append,List.mem_singleton]
  constructor
  · rintro (⟨z,h1,h2⟩ | h)
    · exact ⟨z,.inl h1,h2⟩
    · exact ⟨y,.inr rfl,fn,hfn,h⟩
  · rintro ⟨z,h1 | rfl,fn',h2,h3⟩
    · exact .inl ⟨z,h1,fn',h2,h3⟩
    · rw [hfn] at h2;cases h2;exact .inr h3
theorem lX {w : World} {B g : Nat} {v : Value} {xs cs : List Value} (h : Own w B 3 v xs) (hb : Blk w g 66 cs) (e : v.ownBlock = some g) : False:=by
  rcases h.2 with ⟨rfl,_⟩ | ⟨q,cap,cur,rfl,_,hg,_⟩
  · cases e
  · injection e with e
    have e : q = g:=e
    subst e
    unfold Blk at hb
    rw [hg] at hb
    injection hb with hb
    injection hb with _ h2
    exact absurd h2 (by decide)
theorem Q8 {α : Type} {l : List α} {i : Nat} {y : α} {P : α → Prop} {A : Prop} (hy : l[i]? = some y) : (A ∨ ∃ z ∈ l.take (i + 1),P z) ↔ ((A ∨ ∃ z ∈ l.take i,P z) ∨ P y):=by
  rw [List.take_add_one,hy]
  simp only [Option.toList_some,List.mem_append,List.mem_singleton]
  constructor
  · rintro (h | ⟨z,h | rfl,h2⟩)
    · exact .inl (.inl h)
    · exact .inl (.inr ⟨z,h,h2⟩)
    · exact .inr h2
  · rintro ((h | ⟨z,h,h2⟩) | h)
    · exact .inl h
    · exact .inr ⟨z,.inl h,h2⟩
    · exact .inr ⟨y,.inr rfl,h⟩
set_option maxRecDepth 1000000 in
set_option maxHeartbeats 8000000 in
theorem QN (B : Nat) (p : Pg) (w : World) (hp : p.Ok w B) (hB : B ≤ w.heap.size) (hs : Q.small p = true) (h32 : p.len ≤ 32) (f : Nat) (_hf : f < p.len) (a b : Int) (cs : List Nat) (hcs : setL (MayDo p a b f) = cs) :
    Calls Tryd.prog 42 #[pgA p,.int .i64 (f : Int),.int .i64 a,.int .i64 b] w fun e w' => ∃ v,e = .returned v ∧ Own w' w.heap.size 3 v (cs.map natV) ∧ Below w.heap.size w w':=by
  have HP:=kp hp;have HS:=kp hs;have HCs:=kp hcs
  have HLen:=kp hp.row.len
  have hlc:=hp.lc;have hcm:=hp.cm
  unfold maxLen at hcm
  have HSm : Kept (∀ g ∈ p.fns,g.nodes.length ≤ 100):=kp (by
    unfold Q.small at hs
    rw [Bool.and_eq_true] at hs
    intro g hg
    simpa using List.all_eq_true.1 hs.2 g hg)
  clear hp hs hcs hcm
  rw [jM]
  go_enter Tryd.func42,Tryd.ntmps42
  go_wp2_with (first
    | ((with_reducible refine j4 rfl 24 (.tmp 0) rfl (pgC p) rfl ?_);intro g1 w1 hg1 hk1 hw1;have HK1:=kp hk1;have HW1:=kp hw1;have hs1:=hw1.size;obtain ⟨hc0,hc1,hc2,hc3⟩:=j8 hk1;clear hg1 hk1 hw1)
    | (go_at_call 65;fail))
  have hO2:=Own.new w1 w1.heap.size 3 ([f].map natV) (Nat.le_refl _) (by simp [maxLen])
  obtain ⟨w2,hw2⟩ : ∃ x,w1.alloc (.cells (#[.int .i64 (f : Int)]) 3) = x:=⟨_,rfl⟩
  have hb2 : Below w1.heap.size w1 w2:=by rw [← hw2];exact (Below.refl _ _).alloc (Nat.le_refl _) _
  have hr2 : Row natV w2 w2.heap.size (some ⟨w1.heap.size,0,none⟩) 1 [f]:=by
    obtain ⟨A',c',e',_,_,hr⟩:=hO2.readsN (n:=1) rfl
    cases e'
    rw [← hw2];exact hr
  have HR2:=kp hr2;have HW2:=kp (HW1.out.trans (hb2.mono hs1));have hs2:=HW2.out.size
  have HK2:=kp (HK1.out.below hb2 HK1.out.lt)
  rw [hw2]
  clear hO2 hw2 hb2 hr2 hc0 hc1 hc2 hc3
  obtain ⟨rl,hrl⟩ : ∃ rl,reachL p (fun x => x ∈ [f]) = rl:=⟨_,rfl⟩
  obtain ⟨nr,hnr⟩ : ∃ nr,rl.length = nr:=⟨_,rfl⟩
  have hnr32 : nr ≤ 32:=by
    rw [← hnr,← hrl]
    unfold reachL
    exact Nat.le_trans (vY _ _) h32
  have HRl:=kp hrl;have HNr:=kp hnr
  have HLt : Kept (∀ y ∈ rl,y < p.len):=kp (by rw [← hrl];exact fun y hy => Y9 hy)
  have HMay : Kept (∀ id,MayDo p a b f id ↔ ∃ y ∈ rl,OwnDo p a b y id):=kp (by rw [← hrl];exact fun id => QU)
  clear hrl hnr
  refine (Y6 w2.heap.size p w2 ((XJ HP.out HW2.out hB).more hs2) _ 1 1 [f] HR2.out (by omega) (Nat.le_refl _) h32 HS.out).mono ?_
  rintro e w3 ⟨v3,o,rfl,ho,hown3,hb3⟩
  rw [QO ho,HRl.out] at hown3
  obtain ⟨A3,k3,rfl,hk3,hm3,hr3⟩:=hown3.readsN HNr.out
  have HR3:=kp hr3
  have HW3:=kp (HW2.out.trans (hb3.mono hs2));have hs3:=HW3.out.size
  have HK3:=kp (HK2.out.below hb3 HK2.out.lt)
  have hlp3:=HK3.out.lt
  have HP3:=kp (XJ HP.out HW3.out hB)
  unfold maxLen at hm3
  clear ho hown3 hr3 hb3
  obtain ⟨P,hP⟩ : ∃ P,MayDo p a b f = P:=⟨_,rfl⟩
  have HPd:=kp hP
  rw [hP] at HMay HCs
  clear hP
  go_wp2
  go_loopw [10,11] (fun v10 v11 wr => ∃ k : Nat,k ≤ 32 ∧ v11 = .int .i64 k ∧ Own wr w3.heap.size 3 v10 ((setTo P k).map natV) ∧ Below w3.heap.size w3 wr) (fun _ v11 _ => 32 - (intOf v11).toNat)
  case atStart => exact ⟨0,by omega,rfl,Own.nil _ _ _,Below.refl _ _⟩
  case round =>
    obtain ⟨k,hk,rfl,hown,hbr⟩:=hrel
    have HO:=kp hown;have HBr:=kp hbr
    have hsr:=hbr.size
    have hlk:=XX P k
    clear hown hbr
    by_cases hlt : k < 32
    · have hkb : decide ((k : Int) < (32 : Int)) = true:=by simp;omega
      have HLk:=kp hlt
      clear hlt
      go_wp2
      clear hkb
      go_loopw [12,13] (fun v12 v13 wi => ∃ (i : Nat) (is : Bool),i ≤ nr ∧ v13 = .int .i64 i ∧ v12 = .bool is ∧ xH is (∃ y ∈ rl.take i,OwnDo p a b y k) ∧ Own wi w3.heap.size 3 u10 ((setTo P k).map natV) ∧ Below w3.heap.size w3 wi) (fun _ v13 _ => nr - (intOf v13).toNat)
      case atStart => exact ⟨0,false,by omega,rfl,rfl,by unfold xH;simp,HO.out,HBr.out⟩
      case round =>
        clear HO HBr hsr
        obtain ⟨i,is,hi,rfl,rfl,htl,hown,hbr⟩:=hrel
        have HTl:=kp htl;have HO:=kp hown;have HBr:=kp hbr
        have hsr:=hbr.size
        by_cases hil : i < nr
        · obtain ⟨ad,y,rfl,had,hy,hcy⟩:=(HR3.out.below hbr).get hil
          rw [lG] at hcy
          have hyl:=HLt.out y (List.mem_of_getElem? hy)
          obtain ⟨adp,fn,e0,hadp0,hfn,hfok,hcf⟩:=(HP3.out.below (hbr.mono hs3)).fn hyl
          have HE0:=kp e0;have HFn:=kp hfn;have HYy:=kp hy
          have hfl100:=HSm.out fn (List.mem_of_getElem? hfn)
          have hfl:=hfok.nodes.1.len
          have hfcm:=hfok.cm;have hflc:=hfok.lc
          unfold maxLen at hfcm
          have HNd : Kept (∀ W,Below w3.heap.size w3 W → Nodes W w.heap.size fn.A fn.len fn.nodes):=kp fun W hW => by
            obtain ⟨_,fn',_,_,hx',hok',_⟩:=(HP3.out.below (hW.mono hs3)).fn hyl
            rw [HFn.out] at hx';cases hx';exact hok'.nodes
          have HCyW : Kept (∀ W,Below w3.heap.size w3 W → W.cell? (ad.add i) = some (.int .i64 (y : Int))):=kp fun W hW => by
            obtain ⟨ad',y',e',_,hy',hc'⟩:=(HR3.out.below hW).get hil
            cases e'
            rw [HYy.out] at hy';cases hy'
            rw [lG] at hc'
            exact hc'
          have HCfW : Kept (∀ W,Below w3.heap.size w3 W → W.cell? (adp.add y) = some (.slice fn.A fn.len fn.cap)):=kp fun W hW => by
            obtain ⟨ad',fn',e',_,hx',_,hc'⟩:=(HP3.out.below (hW.mono hs3)).fn hyl
            rw [HFn.out] at hx';cases hx'
            rw [HE0.out] at e';cases e'
            exact hc'
          have hadw3 : ad.block < w3.heap.size:=had
          have hadp3 : adp.block < w3.heap.size:=by omega
          have HIs : Kept (xH is ((∃ z ∈ rl.take i,OwnDo p a b z k) ∨ ∃ x ∈ fn.nodes.take 0,Tl a b x k)):=kp (htl.congr (by simp))
          clear htl hown hbr hy hfn hfok hcy hcf e0
          rw [HE0.out]
          go_wp2
          go_loopw [12,14] (fun v12 v14 wj => ∃ (j : Nat) (is : Bool),j ≤ fn.len ∧ v14 = .int .i64 j ∧ v12 = .bool is ∧ xH is ((∃ z ∈ rl.take i,OwnDo p a b z k) ∨ ∃ x ∈ fn.nodes.take j,Tl a b x k) ∧ Own wj w3.heap.size 3 u10 ((setTo P k).map natV) ∧ Below w3.heap.size w3 wj) (fun _ v14 _ => fn.len - (intOf v14).toNat)
          case atStart => exact ⟨0,is,by omega,rfl,rfl,HIs.out,HO.out,HBr.out⟩
          case round =>
            clear HO HBr hsr HIs HTl
            obtain ⟨j,is,hj,rfl,rfl,htl,hown,hbr⟩:=hrel
            have HTl:=kp htl;have HO:=kp hown;have HBr:=kp hbr
            have hsr:=hbr.size
            have hcy:=HCyW.out _ hbr;have hcf:=HCfW.out _ hbr
            obtain ⟨hc0,hc1,hc2,hc3⟩:=j8 (HK3.out.below hbr hlp3)
            rw [HE0.out] at hc3
            have hil2 : (i : Int) < (nr : Int):=by omega
            have hyl2 : (y : Int) < (p.len : Int):=by omega
            clear htl hown hbr
            go_wp2
            go_quiet (fail)
            obtain ⟨wi,hwi⟩ : ∃ x,wr.drewN nq = x:=⟨_,rfl⟩
            have HBi : Kept (Below w3.heap.size w3 wi):=kp (by rw [← hwi];exact below_drewN HBr.out _)
            have HOi : Kept (Own wi w3.heap.size 3 u10 ((setTo P k).map natV)):=kp (by rw [← hwi];exact HO.out.below (below_drewN (Below.refl wr.heap.size wr) nq) (Nat.le_refl _))
            rw [hwi]
            clear hwi hc0 hc1 hc2 hc3 hcy hcf hsr
            have hsi:=HBi.out.size
            by_cases hjl : j < fn.len
            · obtain ⟨ad4,x,e4,had4,hx,hxok,hn0,hn1,hn2,hn3⟩:=(HNd.out wi HBi.out).get hjl
              have hjl2 : (j : Int) < (fn.len : Int):=by omega
              have HXx:=kp hx
              have HXc : Kept (ad4.block < wi.heap.size ∧ wi.cell? (ad4.add (j * 4)) = some (.int .i64 x.kind) ∧ wi.cell? ⟨(ad4.add (j * 4)).block,(ad4.add (j * 4)).off + 1,none⟩ = some (.int .i64 x.arg) ∧ wi.cell? ⟨(ad4.add (j * 4)).block,(ad4.add (j * 4)).off + 2,none⟩ = some (.int .i64 x.next) ∧ wi.cell? ⟨(ad4.add (j * 4)).block,(ad4.add (j * 4)).off + 3,none⟩ = some (.int .i64 x.alt)):=kp ⟨by omega,hn0,hn1,hn2,hn3⟩
              have HKp:=kp (HK3.out.below HBi.out hlp3)
              have hlp:=HKp.out.lt
              have HCy:=kp (HCyW.out wi HBi.out);have HCf:=kp (HCfW.out wi HBi.out)
              have hadw : ad.block < wi.heap.size:=by omega
              have hadp : adp.block < wi.heap.size:=by omega
              have HTn : Kept (xH (is || ((x.kind == a || x.kind == b) && x.arg == (k : Int))) ((∃ z ∈ rl.take i,OwnDo p a b z k) ∨ ∃ x ∈ fn.nodes.take (j + 1),Tl a b x k)):=kp ((tells_or HTl.out).congr (Q8 HXx.out).symm)
              have HE4:=kp e4
              clear hx hxok hn0 hn1 hn2 hn3 had4 e4
              rw [HE4.out]
              go_wp2
              apply jJ 12 (.is _ :: .is _ :: .is _ :: .is _ :: .is _ :: .is _ :: .is _ :: .is _ :: .is _ :: .is _ :: .is (ndA x) :: (.nodeNewK wi.heap.size) :: [])
                [[],[(0,43)],[],[],[(2,45),(3,46)],[(4,47)],[(1,44),(5,48)],[(6,49)],[],[(7,50),(8,51)],[(9,52)],[],[(11,15),(10,53)]]
                [(0,43),(1,44),(2,45),(3,46),(4,47),(5,48),(6,49),(7,50),(8,51),(9,52),(10,53),(11,15)] (by kernel_rfl) (by kernel_rfl) (by kernel_rfl) (by kernel_rfl) (by kernel_rfl)
              case hob =>
                refine ⟨?o0,?o1,?o2,?o3,?o4,?o5,?o6,?o7,?o8,?o9,?o10,?o11,trivial⟩
                case o0 => intro W hW;change wpList _ _ _ _ _ _;go_wp2;exact j3 rfl rfl rfl
                case o1 =>
                  intro W hW;rintro _ rfl;change wpList _ _ _ _ _ _
                  obtain ⟨hc0,hc1,hc2,hc3⟩:=j8 (HKp.out.below hW hlp)
                  rw [HE0.out] at hc3
                  go_wp2;exact j3 rfl rfl rfl
                case o2 => intro W hW;change wpList _ _ _ _ _ _;go_wp2;exact j3 rfl rfl rfl
                case o3 => intro W hW;change wpList _ _ _ _ _ _;go_wp2;exact j3 rfl rfl rfl
                case o4 => intro W hW;rintro _ rfl;rintro _ rfl;change wpList _ _ _ _ _ _;go_wp2;exact j3 rfl rfl rfl
                case o5 =>
                  intro W hW;rintro _ rfl;change wpList _ _ _ _ _ _
                  have hq:=(hW.cell (p:=ad.add i) (by rw [add_block];exact hadw)).trans HCy.out
                  go_wp2;exact j3 rfl rfl rfl
                case o6 => intro W hW;rintro _ rfl;rintro _ rfl;change wpList _ _ _ _ _ _;go_wp2;exact j3 rfl rfl rfl
                case o7 =>
                  intro W hW;rintro _ rfl;change wpList _ _ _ _ _ _
                  have hq:=(hW.cell (p:=adp.add y) (by rw [add_block];exact hadp)).trans HCf.out;rw [HE4.out] at hq
                  go_wp2;exact j3 rfl rfl rfl
                case o8 => intro W hW;change wpList _ _ _ _ _ _;go_wp2;exact j3 rfl rfl rfl
                case o9 => intro W hW;rintro _ rfl;rintro _ rfl;change wpList _ _ _ _ _ _;go_wp2;exact j3 rfl rfl rfl
                case o10 =>
                  intro W hW;rintro _ rfl;change wpList _ _ _ _ _ _
                  obtain ⟨hx0,hx1,hx2,hx3⟩:=LE (HXc.out) hW
                  rw [show ndA x = .agg #[.int .i64 x.kind,.int .i64 x.arg,.int .i64 x.next,.int .i64 x.alt] from rfl]
                  go_wp2;exact j3 rfl rfl rfl
                case o11 =>
                  intro W hW;change wpList _ _ _ _ _ _
                  have hsW:=hW.size
                  go_must (refine j7 rfl 66 rfl (ndC ⟨0,0,0,0⟩) jU ?_)
                  intro gx wx hgx hkx hbx
                  have HKx:=kp hkx;have HGx:=kp hgx;have HBx:=kp hbx
                  clear hgx hkx hbx
                  go_wp2
                  exact jE rfl rfl rfl HBx.out ⟨gx,rfl,HKx.out,by have:=HGx.out;omega⟩
              case hend =>
                intro W hW;rintro _ rfl;rintro _ rfl;rintro _ rfl;rintro _ rfl;rintro _ rfl;rintro _ rfl;rintro _ rfl;rintro _ rfl;rintro _ rfl;rintro _ rfl;rintro _ rfl;rintro _ ⟨g5,rfl,hk5,hg5⟩
                simp only [given,jI,List.set,List.drop]
                obtain ⟨gn,hgn⟩ : ∃ gn,g5 = gn:=⟨_,rfl⟩
                have HBw:=kp (HBi.out.trans (hW.mono hsi));have hswi:=HBw.out.size
                have HOw:=kp (HOi.out.below hW (Nat.le_refl _))
                have HK5:=kp hk5;have HG5:=kp hg5
                clear hW hk5 hg5 hgn
                cases is
                · obtain ⟨ka,hka⟩ : ∃ q,(x.kind == a) = q:=⟨_,rfl⟩
                  obtain ⟨kb,hkb⟩ : ∃ q,(x.kind == b) = q:=⟨_,rfl⟩
                  obtain ⟨kc,hkc⟩ : ∃ q,(x.arg == (k : Int)) = q:=⟨_,rfl⟩
                  rw [hka,hkb,hkc] at HTn
                  cases ka
                  · cases kb
                    · skip
                      go_wp2_with (first
                        | ((with_reducible show Sn);go_must (refine j5 rfl 66 (.tmp 15) (.tmp 53) rfl g5 (ndC x) rfl rfl _ _ HK5.out jD rfl (jK x) ?_);intro w7 hk7 hg7 hs7
                           obtain ⟨hx0,hx1,hx2,hx3⟩:=jB hk7
                           have HB7:=kp (HBw.out.grown hg7 hswi (fun q e => by cases e;have:=HG5.out;omega))
                           have HO7:=kp (HOw.out.far hg7 (.inr (fun e => lX HOw.out HK5.out e)))
                           clear hk7 hg7 hs7))
                      go_roundw
                      case rel => exact ⟨j + 1,false,by omega,by go_num,rfl,HTn.out,HO7.out,HB7.out⟩
                      case measure => simp [intOf];omega
                    · cases kc
                      · skip
                        go_wp2_with (first
                          | ((with_reducible show Sn);go_must (refine j5 rfl 66 (.tmp 15) (.tmp 53) rfl g5 (ndC x) rfl rfl _ _ HK5.out jD rfl (jK x) ?_);intro w7 hk7 hg7 hs7
                             obtain ⟨hx0,hx1,hx2,hx3⟩:=jB hk7
                             have HB7:=kp (HBw.out.grown hg7 hswi (fun q e => by cases e;have:=HG5.out;omega))
                             have HO7:=kp (HOw.out.far hg7 (.inr (fun e => lX HOw.out HK5.out e)))
                             clear hk7 hg7 hs7))
                        go_roundw
                        case rel => exact ⟨j + 1,false,by omega,by go_num,rfl,HTn.out,HO7.out,HB7.out⟩
                        case measure => simp [intOf];omega
                      · skip
                        go_wp2_with (first
                          | ((with_reducible show Sn);go_must (refine j5 rfl 66 (.tmp 15) (.tmp 53) rfl g5 (ndC x) rfl rfl _ _ HK5.out jD rfl (jK x) ?_);intro w7 hk7 hg7 hs7
                             obtain ⟨hx0,hx1,hx2,hx3⟩:=jB hk7
                             have HB7:=kp (HBw.out.grown hg7 hswi (fun q e => by cases e;have:=HG5.out;omega))
                             have HO7:=kp (HOw.out.far hg7 (.inr (fun e => lX HOw.out HK5.out e)))
                             clear hk7 hg7 hs7))
                        go_roundw
                        case rel => exact ⟨j + 1,true,by omega,by go_num,rfl,HTn.out,HO7.out,HB7.out⟩
                        case measure => simp [intOf];omega
                  · cases kc
                    · skip
                      go_wp2_with (first
                        | ((with_reducible show Sn);go_must (refine j5 rfl 66 (.tmp 15) (.tmp 53) rfl g5 (ndC x) rfl rfl _ _ HK5.out jD rfl (jK x) ?_);intro w7 hk7 hg7 hs7
                           obtain ⟨hx0,hx1,hx2,hx3⟩:=jB hk7
                           have HB7:=kp (HBw.out.grown hg7 hswi (fun q e => by cases e;have:=HG5.out;omega))
                           have HO7:=kp (HOw.out.far hg7 (.inr (fun e => lX HOw.out HK5.out e)))
                           clear hk7 hg7 hs7))
                      go_roundw
                      case rel => exact ⟨j + 1,false,by omega,by go_num,rfl,HTn.out,HO7.out,HB7.out⟩
                      case measure => simp [intOf];omega
                    · skip
                      go_wp2_with (first
                        | ((with_reducible show Sn);go_must (refine j5 rfl 66 (.tmp 15) (.tmp 53) rfl g5 (ndC x) rfl rfl _ _ HK5.out jD rfl (jK x) ?_);intro w7 hk7 hg7 hs7
                           obtain ⟨hx0,hx1,hx2,hx3⟩:=jB hk7
                           have HB7:=kp (HBw.out.grown hg7 hswi (fun q e => by cases e;have:=HG5.out;omega))
                           have HO7:=kp (HOw.out.far hg7 (.inr (fun e => lX HOw.out HK5.out e)))
                           clear hk7 hg7 hs7))
                      go_roundw
                      case rel => exact ⟨j + 1,true,by omega,by go_num,rfl,HTn.out,HO7.out,HB7.out⟩
                      case measure => simp [intOf];omega
                · rw [Bool.true_or] at HTn
                  go_wp2_with (first
                    | ((with_reducible show Sn);go_must (refine j5 rfl 66 (.tmp 15) (.tmp 53) rfl g5 (ndC x) rfl rfl _ _ HK5.out jD rfl (jK x) ?_);intro w7 hk7 hg7 hs7
                       obtain ⟨hx0,hx1,hx2,hx3⟩:=jB hk7
                       have HB7:=kp (HBw.out.grown hg7 hswi (fun q e => by cases e;have:=HG5.out;omega))
                       have HO7:=kp (HOw.out.far hg7 (.inr (fun e => lX HOw.out HK5.out e)))
                       clear hk7 hg7 hs7))
                  go_roundw
                  case rel => exact ⟨j + 1,true,by omega,by go_num,rfl,HTn.out,HO7.out,HB7.out⟩
                  case measure => simp [intOf];omega
            · have hge : fn.len ≤ j:=by omega
              have HTe : Kept (xH is (∃ z ∈ rl.take (i + 1),OwnDo p a b z k)):=kp (HTl.out.congr (own_all HYy.out HFn.out (by rw [(HNd.out wi HBi.out).1.len];omega)))
              clear hjl
              go_wp2
              go_roundw
              case rel => exact ⟨i + 1,is,by omega,by go_num,rfl,HTe.out,HOi.out,HBi.out⟩
              case measure => simp [intOf];omega
        · have hie : nr ≤ i:=by omega
          have HTe : Kept (xH is (P k)):=kp (htl.congr (by rw [List.take_of_length_le (by rw [HNr.out];exact hie)];exact (HMay.out k).symm))
          clear htl hown hbr hil
          cases is
          · have HSn : Kept (setTo P (k + 1) = setTo P k):=kp (setTo_no (fun h => by have:=HTe.out.2 h;cases this))
            go_wp2
            go_roundw
            case rel => exact ⟨k + 1,by have:=HLk.out;omega,by go_num,by rw [HSn.out];exact HO.out,HBr.out⟩
            case measure => have:=HLk.out;simp [intOf];omega
          · have HSy : Kept (setTo P (k + 1) = setTo P k ++ [k]):=kp (XW (HTe.out.1 rfl))
            have hlk2 : ((setTo P k).map natV).length ≤ 32:=by rw [List.length_map];omega
            go_wp2_with (at_builtin;go_must (refine jO rfl (.tmp 74) (.tmp 76) 76 rfl w3.heap.size 3 _ _ Tryd.underlying76 q6 rfl _ _ _ _ rfl HO.out _ 1 rfl rfl rfl (by simp only [maxLen];omega) (by omega) hsr ?_);intro v1 w8 hown1 hg1;have HO8:=kp hown1;have HG8:=kp hg1;clear hown1 hg1)
            go_roundw
            case rel => exact ⟨k + 1,by have:=HLk.out;omega,by go_num,by rw [HSy.out,List.map_append];exact HO8.out,HG8.out.below HBr.out HO.out hsr⟩
            case measure => have:=HLk.out;simp [intOf];omega
    · have hke : k = 32:=by omega
      have HE : Kept (setTo P k = cs):=kp (by rw [hke,XY];exact HCs.out)
      have hge : 32 ≤ k:=by omega
      clear hlt hke
      go_wp2
      go_ret
      exact ⟨_,rfl,by rw [← HE.out];exact HO.out.less hs3,HW3.out.trans (HBr.out.mono hs3)⟩
end Go.Proofs.YtoekiejipdabmaaDoor
