/- SeekP5, SeekP6, SeekP7, SeekLaw0, WWitFound. -/
import Derived.Test.YtcbfghcdbmlneaaSeekP4
import Derived.Test.YtcbfghcdbmlneaaPk9
import Derived.Test.YtcbfghcdbmlneaaPk1
import Derived.Test.YtcbfghcdbmlneaaPk19
import Derived.Test.YtcbfghcdbmlneaaPk18
import Derived.Test.YtcbfghcdbmlneaaPk28
import Derived.Test.YtcbfghcdbmlneaaPk30
import Derived.Carry
import Derived.Test.YtcbfghcdbmlneaaPk10
import Derived.Test.YtcbfghcdbmlneaaPk4
namespace Go.Proofs.Ytcbfghcdbmlneaa
open Go.RowKit
theorem Blk.sets2 {g : Nat} {t : TypeId} : ∀ (vs : List Value) (o : Nat) (cur : List Value) (w : World),Blk w g t cur → o + vs.length ≤ cur.length →
    ∃ cur',Blk (w.setCells g o vs) g t cur' ∧ cur'.length = cur.length ∧ (∀ i,cur'[i]? = if i < o then cur[i]? else if i < o + vs.length then vs[i - o]? else cur[i]?) ∧ w.grownBy (w.setCells g o vs) (some g)
  | [],o,cur,w,h,_ => ⟨cur,h,rfl,fun i => by
      by_cases h1 : i < o
      · rw [if_pos h1]
      · rw [if_neg h1,if_neg (by simp;omega)],World.grownBy.refl w _⟩
  | v :: r,o,cur,w,h,hl => by
    rw [List.length_cons] at hl
    obtain ⟨cur',h1,h2,h3,h4⟩:=Blk.sets2 r (o + 1) _ _ (h.set o v) (by rw [List.length_set];omega)
    refine ⟨cur',h1,by rw [h2,List.length_set],fun i => ?_,?_⟩
    · rw [h3 i,List.length_cons]
      by_cases e0 : i = o
      · subst e0
        rw [if_pos (by omega),if_neg (by omega),if_pos (by omega),List.getElem?_set_self (by omega),Nat.sub_self];rfl
      · rw [List.getElem?_set_ne (by omega)]
        by_cases e1 : i < o
        · rw [if_pos (by omega),if_pos e1]
        · rw [if_neg (by omega),if_neg e1]
          by_cases e2 : i < o + (r.length + 1)
          · rw [if_pos (by omega),if_pos e2,show i - o = (i - (o + 1)) + 1 by omega];rfl
          · rw [if_neg (by omega),if_neg e2]
    · have hg:=qF w g o v
      exact ⟨h4.os.trans hg.os,h4.tape.trans hg.tape,h4.output.trans hg.output,Nat.le_trans hg.size h4.size,fun i hi hne => (h4.block i (Nat.lt_of_lt_of_le hi hg.size) hne).trans (hg.block i hi hne)⟩
theorem wpList_store_row {α : Type} {sz : Nat} {f : α → Nat → Value} {B n cap : Nat} {e : TypeId} {l : List α} {P : Program} {ops : Array Oper} {rest : List Oper} {op : Oper} {a : Act} {w : World} {Q : Exit → Act → World → Prop} (hgd : op.guard = none) (ty : TypeId) (x y : Operand) (ho : op.op = .store ty x y)
    (g off k : Nat) (u : α) (cs : List Value) (hx : a.eval x = .pointer (some ⟨g,off + k * sz,none⟩)) (hy : a.eval y = .agg cs.toArray) (hr : OwnT sz f w B e (some ⟨g,off,none⟩) n cap l) (hk : k < n)
    (hcs : ∀ j,j < sz → cs[j]? = some (f u j)) (hlen : cs.length = sz) (hi : (P.info? ty).map (·.size) = some cs.length) (h1 : ∀ v ∈ cs,v.oneCell' = true)
    (h : ∀ w',OwnT sz f w' B e (some ⟨g,off,none⟩) n cap (l.set k u) → w.grownBy w' (some g) → wpList P ops Q rest (a.put op.dst undef) w') : wpList P ops Q (op :: rest) a w:=by
  obtain ⟨a1,a2,a3,a4⟩:=hr
  rcases a4 with ⟨h0,_⟩ | ⟨g',off',cur,hA,hB,hb,hs,hc⟩
  · cases h0
  injection hA with hA
  injection hA with e1 e2
  subst e1 e2
  have hle : (k + 1) * sz ≤ cap * sz:=Nat.mul_le_mul_right _ (by omega)
  have hle2 : (k + 1) * sz = k * sz + sz:=by rw [Nat.add_mul];omega
  obtain ⟨cur',h2,h3,h4,h5⟩:=Blk.sets2 cs (off + k * sz) cur w hb (by omega)
  refine wpList_store_mid hgd ty x y ho g (off + k * sz) cs.toArray hx hy (fun j hj => ⟨?_,hb.frozen _⟩) (by simpa using hi) (all_oneCell_toArray h1) (h _ ⟨by rw [List.length_set];exact a1,a2,a3,.inr ⟨g,off,cur',rfl,hB,by simpa using h2,by omega,fun i z hz j hj => ?_⟩⟩ (by simpa using h5))
  · have hj' : j < cs.length:=by simpa using hj
    rw [hb.cell,List.getElem?_eq_getElem (by omega)];rfl
  · rw [h4,hlen]
    by_cases e : i = k
    · subst e
      rw [List.getElem?_set_self (by omega)] at hz
      have hz2 : u = z:=Option.some.inj hz
      rw [if_neg (by omega),if_pos (by omega),← hz2,show off + i * sz + j - (off + i * sz) = j by omega]
      exact hcs j hj
    · rw [List.getElem?_set_ne (fun e2 => e e2.symm)] at hz
      have h6:=hc i z hz j hj
      rcases Nat.lt_or_ge i k with e3 | e3
      · have : (i + 1) * sz ≤ k * sz:=Nat.mul_le_mul_right _ (by omega)
        rw [Nat.add_mul] at this
        rw [if_pos (by omega)];exact h6
      · have : (k + 1) * sz ≤ i * sz:=Nat.mul_le_mul_right _ (by omega)
        rw [if_neg (by omega),if_neg (by omega)];exact h6
theorem OwnT.cellAt {α : Type} {sz : Nat} {f : α → Nat → Value} {w : World} {B n cap g off : Nat} {e : TypeId} {l : List α} (h : OwnT sz f w B e (some ⟨g,off,none⟩) n cap l) {k : Nat} {x : α} (hx : l[k]? = some x) {j : Nat} (hj : j < sz) : w.cell? ⟨g,off + k * sz + j,none⟩ = some (f x j):=by
  rcases h.2.2.2 with ⟨h0,_⟩ | ⟨g',off',cur,hA,hB,hb,hs,hc⟩
  · cases h0
  injection hA with hA
  injection hA with e1 e2
  subst e1 e2
  rw [hb.cell];exact hc k x hx j hj
def Turned {α : Type} (l l1 : List α) (n k : Nat) : Prop:=l1.length = n ∧ ∀ m,m < n → l1[m]? = if m < k ∨ n ≤ m + k then l[n - 1 - m]? else l[m]?
theorem Turned.done {α : Type} {l l1 : List α} {n k : Nat} (h : Turned l l1 n k) (hl : l.length = n) (hk : n ≤ 2 * k + 1) : l1 = l.reverse:=by
  refine List.ext_getElem? fun m => ?_
  rcases Nat.lt_or_ge m n with hm | hm
  · rw [h.2 m hm,List.getElem?_reverse (by omega),hl]
    by_cases e : m < k ∨ n ≤ m + k
    · rw [if_pos e]
    · rw [if_neg e];congr 1;omega
  · rw [List.getElem?_eq_none (by rw [h.1];exact hm),List.getElem?_eq_none (by rw [List.length_reverse];omega)]
theorem Turned.step {α : Type} {l l1 : List α} {n k : Nat} (h : Turned l l1 n k) {x y : α} (hk : k < n - 1 - k) (hx : l1[k]? = some x) (hy : l1[n - 1 - k]? = some y) : Turned l ((l1.set k y).set (n - 1 - k) x) n (k + 1):=by
  refine ⟨by simp [h.1],fun m hm => ?_⟩
  have hx2:=h.2 k (by omega);have hy2:=h.2 (n - 1 - k) (by omega)
  rw [if_neg (by omega),hx] at hx2
  rw [if_neg (by omega),hy] at hy2
  by_cases e1 : m = n - 1 - k
  · subst e1
    rw [List.getElem?_set_self (by rw [List.length_set,h.1];omega),if_pos (by omega),hx2];congr 1;omega
  · rw [List.getElem?_set_ne (fun e => e1 e.symm)]
    by_cases e2 : m = k
    · subst e2
      rw [List.getElem?_set_self (by rw [h.1];omega),if_pos (by omega),hy2]
    · rw [List.getElem?_set_ne (fun e => e2 e.symm),h.2 m hm]
      by_cases e3 : m < k ∨ n ≤ m + k
      · rw [if_pos e3,if_pos (by omega)]
      · rw [if_neg e3,if_neg (by omega)]
def pkC (x : Int × Bool) : List Value:=[.int .i64 x.1,.bool x.2]
theorem Q8 (x : Int × Bool) : ∀ j,j < 2 → (pkC x)[j]? = some (pkV x j):=fun j hj => by
  rcases j with _ | _ | j
  · rfl
  · rfl
  · omega
theorem YZ (x : Int × Bool) : ∀ v ∈ pkC x,v.oneCell' = true:=fun v hv => by
  simp only [pkC,List.mem_cons,List.not_mem_nil,or_false] at hv
  rcases hv with rfl | rfl <;> rfl
theorem OwnT.pick {w : World} {B n cap g off : Nat} {e : TypeId} {l : List (Int × Bool)} (h : OwnT 2 pkV w B e (some ⟨g,off,none⟩) n cap l) {k : Nat} {x : Int × Bool} (hx : l[k]? = some x) : ∀ j v,(pkC x)[j]? = some v → w.cell? ((⟨g,off + k * 2,none⟩ : Addr).add j) = some v:=fun j v hv => by
  have hj : j < 2:=(List.getElem?_eq_some_iff.1 hv).1
  rw [Addr.add_mid,h.cellAt hx hj,← Q8 x j hj];exact hv
set_option maxRecDepth 100000 in
set_option maxHeartbeats 3200000 in
theorem sk_reverse (B n cap : Nat) (A : Option Addr) (l : List (Int × Bool)) (w : World) (h : OwnT 2 pkV w B 56 A n cap l) (hn : n ≤ 5000) :
    Calls Try.prog 78 #[.slice A n cap] w fun e w' => e = .returned (.tuple #[]) ∧ OwnT 2 pkV w' B 56 A n cap l.reverse ∧ w.grownBy w' (Value.slice A n cap).ownBlock:=by
  have H:=kp h
  have hl:=h.1;have hnc:=h.2.1;have hcm:=h.2.2.1
  unfold maxLen at hcm
  clear h
  go_enter Try.func78,Try.ntmps78
  go_wp2
  go_loopw [2,3] (fun v2 v3 wr => ∃ (k : Nat) (l1 : List (Int × Bool)),k ≤ n ∧ v2 = .int .i64 (k : Int) ∧ v3 = .int .i64 ((n : Int) - 1 - k) ∧ Turned l l1 n k ∧ OwnT 2 pkV wr B 56 A n cap l1 ∧ w.grownBy wr (Value.slice A n cap).ownBlock) (fun v2 _ _ => n - (intOf v2).toNat)
  case atStart => exact ⟨0,l,by omega,rfl,by go_num,⟨hl,fun m hm => by rw [if_neg (by omega)]⟩,H.out,World.grownBy.refl w _⟩
  case round =>
    obtain ⟨k,l1,hk,rfl,rfl,hT,hO,hG⟩:=hrel
    have HT:=kp hT;have HO:=kp hO;have HG:=kp hG
    clear hT hO hG
    by_cases hlt : (k : Int) < (n : Int) - 1 - k
    · obtain ⟨b,hb⟩ : ∃ b : Nat,b = n - 1 - k:=⟨_,rfl⟩
      have hbi : (n : Int) - 1 - k = (b : Int):=by omega
      obtain ⟨g,off,rfl⟩ : ∃ g off,A = some ⟨g,off,none⟩:=by
        rcases HO.out.2.2.2 with ⟨_,h0⟩ | ⟨g,off,cur,hA,_⟩
        · omega
        · exact ⟨g,off,hA⟩
      obtain ⟨x,hx⟩ : ∃ x,l1[k]? = some x:=⟨_,List.getElem?_eq_getElem (by rw [HT.out.1];omega)⟩
      obtain ⟨y,hy⟩ : ∃ y,l1[b]? = some y:=⟨_,List.getElem?_eq_getElem (by rw [HT.out.1];omega)⟩
      have HX:=kp hx;have HY:=kp hy
      have hkn : k < n:=by omega
      have hbn : b < n:=by omega
      rw [hbi] at hlt ⊢
      have HBe:=kp hb
      clear hx hy hb hbi
      go_wp2
      apply q7 (fun k => k = g) [13,15] [0,1,4,5,6,7,8,9,10,11,12] (phs ([fun W => OwnT 2 pkV W B 56 (some ⟨g,off,none⟩) n cap l1,fun W => OwnT 2 pkV W B 56 (some ⟨g,off,none⟩) n cap (l1.set k y),fun W => OwnT 2 pkV W B 56 (some ⟨g,off,none⟩) n cap ((l1.set k y).set b x)])) (.is _ :: .is _ :: .is _ :: .is _ :: .is _ :: .is _ :: .is (.pointer (some ⟨g,off + b * 2,none⟩)) :: .is (.agg (pkC y).toArray) :: .is _ :: .is _ :: .is (.pointer (some ⟨g,off + k * 2,none⟩)) :: .is (.agg (pkC x).toArray) :: .is (.pointer (some ⟨g,off + k * 2,none⟩)) :: .any _ :: .is (.pointer (some ⟨g,off + b * 2,none⟩)) :: .any _ :: [])
        [[],[],[],[],[],[],[(4,18),(5,19)],[(6,20)],[],[],[(8,22),(9,23)],[(10,24)],[(0,14),(1,15)],[(12,26),(7,21)],[(2,16),(3,17)],[(14,27),(11,25)]]
        [(0,14),(1,15),(2,16),(3,17),(4,18),(5,19),(6,20),(7,21),(8,22),(9,23),(10,24),(11,25),(12,26),(14,27)] (by kernel_rfl) (by kernel_rfl) (by kernel_rfl) (by kernel_rfl) (by decide)
      case h0 => exact HO.out.below (below_drewN (Below.refl wr.heap.size wr) 1) (Nat.le_refl _)
      case hob =>
        refine jB rfl rfl ?o0 (jB rfl rfl ?o1 (lI rfl rfl ?o2 (lI rfl rfl ?o3 (jB rfl rfl ?o4 (jB rfl rfl ?o5 (jB rfl rfl ?o6 (jB rfl rfl ?o7 (jB rfl rfl ?o8 (jB rfl rfl ?o9 (jB rfl rfl ?o10 (jB rfl rfl ?o11 (jB rfl rfl ?o12 (lQ 0 rfl rfl ?o13 (lI rfl rfl ?o14 (lQ 1 rfl rfl ?o15 (xJ))))))))))))))))
        case o0 => intro W hO hJ;change wpList _ _ _ _ _ _;go_wp2;exact j8 rfl rfl rfl hJ
        case o1 => intro W hO hJ;change wpList _ _ _ _ _ _;go_wp2;exact j8 rfl rfl rfl hJ
        case o2 => intro p W hO hJ;change wpList _ _ _ _ _ _;go_wp2;exact j8 rfl rfl rfl hJ
        case o3 => intro p W hO hJ;change wpList _ _ _ _ _ _;go_wp2;exact j8 rfl rfl rfl hJ
        case o4 => intro W hO hJ;change wpList _ _ _ _ _ _;go_wp2;exact j8 rfl rfl rfl hJ
        case o5 => intro W hO hJ;change wpList _ _ _ _ _ _;go_wp2;exact j8 rfl rfl rfl hJ
        case o6 => intro W hO hJ;rintro _ rfl;rintro _ rfl;change wpList _ _ _ _ _ _;go_wp2;exact j8 rfl rfl rfl hJ
        case o7 =>
          intro W hO hJ;rintro _ rfl;change wpList _ _ _ _ _ _
          have hJ1 : OwnT 2 pkV W B 56 (some ⟨g,off,none⟩) n cap l1:=hJ
          go_must (refine qK rfl 56 (.tmp 20) rfl ⟨g,off + b * 2,none⟩ rfl (pkC y) _ (hJ1.pick HY.out) Try.underlying56 rfl qW ?_)
          go_wp2;exact j8 rfl rfl rfl hJ
        case o8 => intro W hO hJ;change wpList _ _ _ _ _ _;go_wp2;exact j8 rfl rfl rfl hJ
        case o9 => intro W hO hJ;change wpList _ _ _ _ _ _;go_wp2;exact j8 rfl rfl rfl hJ
        case o10 => intro W hO hJ;rintro _ rfl;rintro _ rfl;change wpList _ _ _ _ _ _;go_wp2;exact j8 rfl rfl rfl hJ
        case o11 =>
          intro W hO hJ;rintro _ rfl;change wpList _ _ _ _ _ _
          have hJ1 : OwnT 2 pkV W B 56 (some ⟨g,off,none⟩) n cap l1:=hJ
          go_must (refine qK rfl 56 (.tmp 24) rfl ⟨g,off + k * 2,none⟩ rfl (pkC x) _ (hJ1.pick HX.out) Try.underlying56 rfl qW ?_)
          go_wp2;exact j8 rfl rfl rfl hJ
        case o12 => intro W hO hJ;rintro _ rfl;rintro _ rfl;change wpList _ _ _ _ _ _;go_wp2;exact j8 rfl rfl rfl hJ
        case o13 =>
          intro W hO hJ;rintro _ rfl;rintro _ rfl;change wpList _ _ _ _ _ _
          have hJ1 : OwnT 2 pkV W B 56 (some ⟨g,off,none⟩) n cap l1:=hJ
          have HJ1:=kp hJ1;clear hJ hJ1
          go_must (refine wpList_store_row rfl 56 (.tmp 26) (.tmp 21) rfl g off k y (pkC y) rfl rfl HJ1.out (by omega) (Q8 y) rfl qW (YZ y) ?_)
          intro W2 ho2 hg2
          have HO2:=kp ho2;have HG2 : Kept (Only (fun k => k = g) W W2):=kp ⟨hg2.os,hg2.tape,hg2.output,hg2.size,fun i hi hne => hg2.block i hi (fun e => hne (Option.some.inj e))⟩;clear ho2 hg2
          go_wp2
          exact l8 rfl HG2.out HO2.out
        case o14 => intro p W hO hJ;rintro _ rfl;rintro _ rfl;change wpList _ _ _ _ _ _;go_wp2;exact j8 rfl rfl rfl hJ
        case o15 =>
          intro W hO hJ;rintro _ rfl;rintro _ rfl;change wpList _ _ _ _ _ _
          have hJ1 : OwnT 2 pkV W B 56 (some ⟨g,off,none⟩) n cap (l1.set k y):=hJ
          have HJ1:=kp hJ1;clear hJ hJ1
          go_must (refine wpList_store_row rfl 56 (.tmp 27) (.tmp 25) rfl g off b x (pkC x) rfl rfl HJ1.out (by omega) (Q8 x) rfl qW (YZ x) ?_)
          intro W2 ho2 hg2
          have HO2:=kp ho2;have HG2 : Kept (Only (fun k => k = g) W W2):=kp ⟨hg2.os,hg2.tape,hg2.output,hg2.size,fun i hi hne => hg2.block i hi (fun e => hne (Option.some.inj e))⟩;clear ho2 hg2
          go_wp2
          exact l8 rfl HG2.out HO2.out
      case hend =>
        intro W hO hJ;rintro _ rfl;rintro _ rfl;rintro _ rfl;rintro _ rfl;rintro _ rfl;rintro _ rfl;rintro _ rfl;rintro _ rfl;rintro _ rfl;rintro _ rfl;rintro _ rfl;rintro _ rfl;rintro _ rfl;rintro _ rfl
        simp only [ggiven,jJ,List.set]
        have HOw : Kept (OwnT 2 pkV W B 56 (some ⟨g,off,none⟩) n cap ((l1.set k y).set b x)):=kp hJ
        have HGw : Kept (w.grownBy W (some g)):=kp ⟨hO.os.trans HG.out.os,hO.tape.trans HG.out.tape,hO.output.trans HG.out.output,Nat.le_trans HG.out.size hO.size,fun i hi hne => (hO.block i (Nat.lt_of_lt_of_le hi HG.out.size) (fun e => hne (by rw [e]))).trans (HG.out.block i hi hne)⟩
        clear hO hJ
        go_wp2
        go_roundw
        case rel => exact ⟨k + 1,_,by omega,by go_num,by have:=HBe.out;go_num,by have h1:=HBe.out;rw [h1];exact HT.out.step (by omega) HX.out (by rw [← h1];exact HY.out),HOw.out,HGw.out⟩
        case measure => simp [intOf];omega
    · have HR : Kept (l1 = l.reverse):=kp (HT.out.done hl (by omega))
      go_wp2
      go_end0
      exact ⟨rfl,HR.out ▸ HO.out,HG.out⟩
theorem Z2 : (Try.prog.info? 56).map (fun i => (i.zero,i.size,i.bytes)) = some (some (.agg #[.int .i64 0,.bool false]),2,16):=by kernel_rfl
theorem XZ : (Try.prog.info? 56).map (fun i => (i.zero.map (·.cells.size),i.size)) = some (some 2,2):=by kernel_rfl
theorem pkV_one12 (x : Int × Bool) (j : Nat) : (pkV x j).oneCell' = true:=by
  rcases j with _ | j <;> rfl
def PathPost (e : K.En) (at0 : Nat) (w : World) : Ending → World → Prop:=fun e' w' => ∃ (A : Option Addr) (n cap : Nat),e' = .returned (.slice A n cap) ∧ OwnT 2 pkV w' w.heap.size 56 A n cap e.path ∧ n ≤ at0 ∧ Below w.heap.size w w'
set_option maxRecDepth 100000 in
set_option maxHeartbeats 3200000 in
theorem sk_path (B gS : Nat) (p : Pg) (most : Int) (r : Sr) (l : List K.En) (m : List (List Nat)) (qs : List Pc) (w : World) (hm : SkP w B gS p most r l m qs) (hsrc : ∀ i e,l[i]? = some e → K.From p l i e) (at0 : Nat) (e : K.En) (he : l[at0]? = some e) (hlen : l.length ≤ 5000) :
    Calls Try.prog 54 #[.pointer (some ⟨gS,0,none⟩),.int .i64 (at0 : Int)] w (PathPost e at0 w):=by
  unfold PathPost
  have hat : at0 < l.length:=(List.getElem?_eq_some_iff.1 he).1
  have HM:=kp hm;have HSrc:=kp hsrc;have HE:=kp he
  have hS0:=hm.blk.lt
  have hln:=hm.list.1
  obtain ⟨gL,off,cur,hLA,hbL⟩ : ∃ gL off cur,r.LA = some ⟨gL,off,none⟩ ∧ Blk w gL 117 cur:=by
    rcases hm.list.2.2.2 with ⟨_,h0⟩ | ⟨g,o,cur,h1,_,h2,_⟩
    · have:=hm.list.2.1;omega
    · exact ⟨g,o,cur,h1,h2⟩
  have HLA:=kp hLA
  have hL0:=hbL.lt
  have HO0 : Kept (OwnT 3 orV w B 117 (some ⟨gL,off,none⟩) r.ln r.lc l):=kp (by rw [← hLA];exact hm.list)
  clear hm hsrc he hLA hbL
  have hcm:=HM.out.list.2.2.1
  have hnc:=HM.out.list.2.1
  unfold maxLen at hcm
  go_enter Try.func54,Try.ntmps54
  go_wp2
  go_loopw [1,5] (fun v1 v5 wr => ∃ (a1 : Nat) (f : K.En) (ps : List (Int × Bool)) (A : Option Addr) (n cap : Nat),v1 = .int .i64 (a1 : Int) ∧ v5 = .slice A n cap ∧ l[a1]? = some f ∧ e.path = f.path ++ ps.reverse ∧ n + a1 ≤ at0 ∧ OwnT 2 pkV wr w.heap.size 56 A n cap ps ∧ Below w.heap.size w wr) (fun v1 _ _ => (intOf v1).toNat)
  case atStart => exact ⟨at0,e,[],none,0,0,rfl,rfl,HE.out,by simp,by omega,OwnT.nil _ _ _ _ _,Below.refl _ _⟩
  case round =>
    obtain ⟨a1,f,ps,A,n,cap,rfl,rfl,hf,hpath,hna,hO,hB⟩:=hrel
    have HF:=kp hf;have HPa:=kp hpath;have HO:=kp hO;have HB:=kp hB
    have hsz:=hB.size
    have ha1 : a1 < l.length:=(List.getElem?_eq_some_iff.1 hf).1
    have hnc1:=hO.2.1;have hcm1:=hO.2.2.1
    unfold maxLen at hcm1
    clear hf hpath hO hB
    by_cases hlt : 0 < (a1 : Int)
    · obtain ⟨hs1,f2,hf2,hpf⟩ : f.src < a1 ∧ ∃ f2,l[f.src]? = some f2 ∧ f.path = f2.path ++ [((f.who : Int),f.way)]:=by
        rcases HSrc.out a1 f HF.out with ⟨h0,_⟩ | ⟨_,h1,f2,h2,_,_,h3⟩
        · omega
        · exact ⟨h1,f2,h2,h3⟩
      have HF2:=kp hf2;have HPf:=kp hpf
      clear hf2 hpf
      have hk1:=HM.out.blk.below HB.out hS0
      have hc5 : wr.cell? ⟨gS,5,none⟩ = some (.slice (some ⟨gL,off,none⟩) r.ln r.lc):=by rw [hk1.cell 5,show (srC p most r)[5]? = some (.slice r.LA r.ln r.lc) from rfl,HLA.out]
      have hai : (a1 : Int) < (r.ln : Int):=by omega
      have HOr : Kept (OwnT 3 orV wr B 117 (some ⟨gL,off,none⟩) r.ln r.lc l):=kp (HO0.out.below HB.out (Nat.le_refl _))
      clear hk1
      have HPk : Kept (∀ j v,(pkC ((f.who : Int),f.way))[j]? = some v → wr.cell? ((⟨gL,off + a1 * 3 + 1,none⟩ : Addr).add j) = some v):=kp fun j v hv => by
        have hj : j < 2:=(List.getElem?_eq_some_iff.1 hv).1
        rw [Addr.add_mid,show off + a1 * 3 + 1 + j = off + a1 * 3 + (1 + j) by omega,HOr.out.cellAt HF.out (show 1 + j < 3 by omega),← hv,Q8 _ j hj]
        rcases j with _ | _ | j
        · rfl
        · rfl
        · omega
      go_wp2_with (first
        | ((with_reducible show Sl 16);go_must (refine qK rfl 56 (.tmp 15) rfl ⟨gL,off + a1 * 3 + 1,none⟩ rfl (pkC ((f.who : Int),f.way)) _ HPk.out Try.underlying56 rfl qW ?_))
        | ((with_reducible show Sl 17);go_must (refine jI rfl 22 56 (.tmp 16) rfl 2 Try.underlying22 XZ (by decide) (by decide) (.agg (pkC ((f.who : Int),f.way)).toArray) (pkC ((f.who : Int),f.way)) rfl rfl rfl ?_);intro g6 w6 hg6 hk6 hb6;have HK6:=kp hk6;have HB6:=kp (HB.out.trans (hb6.mono hsz));have HO6:=kp (HO.out.below hb6 (Nat.le_refl _));have hs6:=HB6.out.size;clear hk6 hb6)
        | (at_builtin;go_must (refine xS rfl (.tmp 8) (.tmp 17) 22 rfl Try.underlying22 Z2 rfl pkV_one12 rfl HO6.out ((f.who : Int),f.way) ⟨g6,0,none⟩ 1 rfl (fun j hj => by rw [Addr.add_mid,Nat.zero_add,HK6.out.cell];exact Q8 _ j hj) (by unfold maxLen;omega) (by omega) hs6 ?_);intro A9 c9 w9 hown9 hgr9;have HO9:=kp hown9;have HB9:=kp (HB6.out.grown hgr9.1 hs6 (fun k hk => (HO6.out.block k hk).1));have hc5 : w9.cell? ⟨gS,5,none⟩ = some (.slice (some ⟨gL,off,none⟩) r.ln r.lc):=by (rw [(HM.out.blk.below HB9.out hS0).cell 5,show (srC p most r)[5]? = some (.slice r.LA r.ln r.lc) from rfl,HLA.out])
           have hc26 : w9.cell? ⟨gL,off + a1 * 3,none⟩ = some (.int .i64 (f.src : Int)):=(HO0.out.below HB9.out (Nat.le_refl _)).cellAt HF.out (show 0 < 3 by omega)
           clear hown9 hgr9))
      go_roundw
      case rel => exact ⟨f.src,f2,ps ++ [((f.who : Int),f.way)],A9,n + 1,c9,by go_num,rfl,HF2.out,by rw [HPa.out,HPf.out];simp,by omega,HO9.out,HB9.out⟩
      case measure => simp [intOf];omega
    · have ha0 : a1 = 0:=by omega
      subst ha0
      have HPe : Kept (e.path = ps.reverse):=kp (by
        rw [HPa.out]
        rcases HSrc.out 0 f HF.out with ⟨_,_,h,_⟩ | ⟨h,_⟩
        · rw [h];rfl
        · omega)
      go_wp2_with (go_at_call 78;fail)
      refine (sk_reverse w.heap.size n cap A ps wr HO.out (by omega)).mono ?_
      rintro e9 w9 ⟨rfl,ho9,hg9⟩
      have HO9:=kp ho9;have HB9:=kp (HB.out.grown hg9 hsz (fun k hk => (HO.out.block k hk).1))
      clear ho9 hg9
      go_wp2
      go_ret
      exact ⟨_,_,_,rfl,by rw [HPe.out];exact HO9.out,by omega,HB9.out⟩
theorem LK {P : Program} {ops : Array Oper} {rest : List Oper} {o : Oper} {a : Act} {w : World} {Q : Exit → Act → World → Prop} (hgd : o.guard = none) (t : TypeId) (ho : o.op = .makeMap t none)
    (h : ∀ g w',w.heap.size ≤ g → (∀ k (R : Value → Option (DataW Unit × List MemPlace)),w'.ownsMap P k R g 0 (.map [])) → g < w'.heap.size → Below w.heap.size w w' → wpList P ops Q rest (a.put o.dst (.map (some g))) w') : wpList P ops Q (o :: rest) a w:=by
  refine wpList_plain hgd fun K hK => ?_
  unfold Oper.wp execOp
  simp [ho,run_makeMap,Result.andThen]
  exact hK _ _ (h _ _ (Nat.le_refl _) (fun k R => World.ownsMap_made w P k R) (World.ownsMap_made (H:=Unit) w P 0 (fun _ => none)).lt ((Below.refl _ _).alloc (Nat.le_refl _) _))
theorem YD (A : Option Addr) (n c : Nat) (g l s m : Int) (gM : Nat) : Try.prog.built 114 [(0,.agg ([.int .i64 g,.int .i64 l,.int .i64 s,.slice A n c] : List Value).toArray),(1,.int .i64 m),(4,.map (some gM))] = some ([.int .i64 g,.int .i64 l,.int .i64 s,.slice A n c,.int .i64 m,.slice none 0 0,.slice none 0 0,.map (some gM),.slice none 0 0,.bool false] : List Value).toArray:=by kernel_rfl
theorem YO : (Try.prog.info? 114).map (·.zero) = some (some (.agg ([.int .i64 0,.int .i64 0,.int .i64 0,.slice none 0 0,.int .i64 0,.slice none 0 0,.slice none 0 0,.map none,.slice none 0 0,.bool false] : List Value).toArray)):=by kernel_rfl
theorem YP : (Try.prog.info? 114).map (·.size) = some 10:=by kernel_rfl
theorem QW : Try.prog.built 117 [] = some ([.int .i64 0,.int .i64 0,.bool false] : List Value).toArray:=by kernel_rfl
theorem LL {P : Program} {ops : Array Oper} {rest : List Oper} {o : Oper} {a : Act} {w : World} {Q : Exit → Act → World → Prop} (hg : o.guard = none) (t : TypeId) (i j k : Nat) (x y z : Operand) (ho : o.op = .build t #[(i,x),(j,y),(k,z)])
    (v u s : Value) (hx : a.eval x = v) (hy : a.eval y = u) (hz : a.eval z = s) (cs : List Value) (hf : P.built t [(i,v),(j,u),(k,s)] = some cs.toArray)
    (h : wpList P ops Q rest (a.put o.dst (.agg cs.toArray)) w) : wpList P ops Q (o :: rest) a w :=
  qB hg t _ ho [(i,v),(j,u),(k,s)] (by simp [hx,hy,hz]) cs hf h
def sr0 (gM : Nat) : Sr:=⟨none,0,0,none,0,0,gM,none,0,0,false⟩
theorem sr0_ones (p : Pg) (most : Int) (gM : Nat) : ∀ v ∈ srC p most (sr0 gM),v.oneCell' = true:=by
  intro v hv
  simp only [srC,List.mem_cons,List.not_mem_nil,or_false] at hv
  rcases hv with rfl | rfl | rfl | rfl | rfl | rfl | rfl | rfl | rfl | rfl <;> rfl
section
variable {w w' w0 : World} {B gS : Nat} {p : Pg} {most : Int} {r r' : Sr} {s : K.Sk} {i : Nat} {qs : List Pc} {l : List K.En} {m : List (List Nat)}
theorem SkS.under (hs : SkS w w' gS r r') (h : SkP w B gS p most r l m qs) (hb : Below B w0 w) (hB : B ≤ w.heap.size) : Below B w0 w' :=
  ⟨hs.1.os.trans hb.os,hs.1.tape.trans hb.tape,hs.1.output.trans hb.output,Nat.le_trans hb.size hs.1.size,fun k hk => (hs.1.block k ⟨by omega,fun e => by have:=(h.lt e).1;omega⟩).trans (hb.block k hk)⟩
theorem OwnT.less {α : Type} {sz : Nat} {f : α → Nat → Value} {B' n cap : Nat} {e : TypeId} {A : Option Addr} {l : List α} (h : OwnT sz f w B e A n cap l) (hB : B' ≤ B) : OwnT sz f w B' e A n cap l:=by
  refine ⟨h.1,h.2.1,h.2.2.1,?_⟩
  rcases h.2.2.2 with h1 | ⟨g,off,cur,h1,h2,h3⟩
  · exact .inl h1
  · exact .inr ⟨g,off,cur,h1,Nat.le_trans hB h2,h3⟩
theorem SkM.takes (h : SkM w B gS p most r s i qs) {e : K.En} (he : s.all[i]? = some e) : ∃ q1 qs1,qs = q1 :: qs1 ∧ q1.cf = e.cf ∧ qs1.map Pc.cf = (s.all.drop (i + 1)).map (·.cf):=by
  have h1:=h.cfs
  have hi:=(List.getElem?_eq_some_iff.1 he).1
  have h3 : s.all[i] = e:=by rw [List.getElem?_eq_getElem hi] at he;exact Option.some.inj he
  rw [List.drop_eq_getElem_cons hi,List.map_cons,h3] at h1
  cases qs with
  | nil => cases h1
  | cons a b =>
    rw [List.map_cons] at h1
    injection h1 with h4 h5
    exact ⟨a,b,rfl,h4,h5⟩
theorem SkM.new {gM : Nat} (hb : Blk w gS 114 (srC p most (sr0 gM))) (hB : B ≤ gS) (hM : B ≤ gM) (hm : w.ownsMap Try.prog 9 (plainElem Try.prog 4) gM 0 (.map [] : DataW Unit)) : SkM w B gS p most (sr0 gM) ⟨[],false⟩ 0 [] :=
  ⟨⟨hb,hB,OwnT.nil _ _ _ _ _,OwnT.nil _ _ _ _ _,⟨[],Own.nil _ _ _,by simp⟩,⟨hM,.map [],hm,MapIs.nil⟩,fun q hq => by cases hq⟩,rfl,rfl,Nat.le_refl _⟩
end
def FindPost (p : Pg) (most : Int) (cc : Nat) (w : World) : Ending → World → Prop:=fun e w' => ∃ (A : Option Addr) (n cap : Nat) (l : List (Int × Bool)) (is : Nat),e = .returned (.tuple #[.slice A n cap,.int .i64 (is : Int),.int .i64 (cc : Int)]) ∧ OwnT 2 pkV w' w.heap.size 56 A n cap l ∧ n ≤ 5000 ∧ (cc = 0 → K.Out p most l is) ∧ (cc ≠ 0 → l = [] ∧ is = 0) ∧ Below w.heap.size w w'
set_option maxRecDepth 100000 in
set_option maxHeartbeats 3200000 in
theorem sk_find (B0 : Nat) (p : Pg) (most : Int) (hmost : most ≤ 5000 ∧ -9223372036854775808 ≤ most) (w : World) (hp : p.Ok w B0) (hB0 : B0 ≤ w.heap.size) (ca cb : Int) (cc : Nat) (hc : Q.check p = (ca,cb,cc)) :
    Calls Try.prog 24 #[pgA p,.int .i64 most] w (FindPost p most cc w):=by
  unfold FindPost
  have HP:=kp hp;have HC:=kp hc
  clear hp hc
  rw [jL]
  go_enter Try.func24,Try.ntmps24
  by_cases hz : cc = 0
  rotate_left
  · have hb0 : ((cc : Int) != 0) = true:=by simpa using hz
    have HZ:=kp hz
    clear hz
    go_wp2_with (first
      | ((with_reducible refine j6 rfl 46 (.tmp 0) rfl (pgC p) rfl ?_);intro g2 w1 hg2 hk1 hw1;have HK1:=kp hk1;have HW1:=kp hw1;have hs1:=hw1.size;have hl1:=hk1.lt;clear hk1 hw1)
      | ((with_reducible show Sl 17);go_must (refine j4 rfl 46 (.tmp 2) rfl g2 rfl _ (pgC p) _ HK1.out Try.underlying46 rfl jF ?_))
      | (go_at_call 51;go_must (refine (y7 B0 p w1 (HP.out.below (HW1.out.mono hB0)) (by omega) ca cb cc HC.out).mono ?_);rintro e w3 ⟨q,rfl,_,_,_,h16,hb3⟩;have H17:=kp (jW h16);have HW3:=kp (HW1.out.trans (hb3.mono hs1));have hs3:=HW3.out.size;clear hb3 h16)
      | ((with_reducible show Sl 7);go_must (refine j7 rfl 91 rfl _ l7 ?_);intro g7 w4 hg7 hk4 hw4;have HK4:=kp hk4;have HW4:=kp (HW3.out.trans (hw4.mono hs3));have hs4:=HW4.out.size;have hg7b : w.heap.size ≤ g7:=Nat.le_trans hs3 hg7;clear hk4 hw4)
      | ((with_reducible show Sn);go_must (refine j5 rfl 91 (.tmp 7) (.tmp 19) rfl g7 (pcC q) rfl rfl _ _ HK4.out (by rw [H17.out];exact jC) (by rw [H17.out];rfl) (jX q) ?_);intro w5 hk5 hgr5 hz5;have HW5:=kp (HW4.out.grown hgr5 hs4 (fun k e => by cases e;exact hg7b));clear hk5 hgr5 hz5))
    refine bodyPost_ret (results_tmp3 rfl _ _ _) rfl ?_
    exact ⟨none,0,0,[],0,rfl,OwnT.nil _ _ _ _ _,by omega,fun h => absurd h HZ.out,fun _ => ⟨rfl,rfl⟩,HW5.out⟩
  · have HZ : Kept ((cc : Int) = 0):=kp (by omega)
    have hb0 : ((cc : Int) != 0) = false:=by rw [HZ.out];rfl
    have HF : Kept (Fine p):=kp (xT (by rw [HC.out,hz]))
    have HL : Kept (p.fns.length = p.len):=kp HP.out.row.len
    have HCz:=kp hz
    clear hz
    go_wp2_with (first
      | ((with_reducible refine j6 rfl 46 (.tmp 0) rfl (pgC p) rfl ?_);intro g2 w1 hg2 hk1 hw1;have HK1:=kp hk1;have HW1:=kp hw1;have hs1:=hw1.size;have hl1:=hk1.lt;clear hk1 hw1)
      | ((with_reducible show Sl 17);go_must (refine j4 rfl 46 (.tmp 2) rfl g2 rfl _ (pgC p) _ HK1.out Try.underlying46 rfl jF ?_))
      | (go_at_call 51;go_must (refine (y7 B0 p w1 (HP.out.below (HW1.out.mono hB0)) (by omega) ca cb cc HC.out).mono ?_);rintro e w3 ⟨q,rfl,hm3,hcf3,_,h16,hb3⟩;have H17:=kp (jW h16);have HQ3:=kp (hm3.less hs1);have HCf:=kp (hcf3 HCz.out);have HW3:=kp (HW1.out.trans (hb3.mono hs1));have HK3:=kp (HK1.out.below hb3 hl1);have hs3:=HW3.out.size;have hl3:=HK3.out.lt;clear hb3 h16 hm3 hcf3)
      | ((with_reducible show Sl 7);go_must (refine j7 rfl 91 rfl _ l7 ?_);intro g7 w4 hg7 hk4 hw4;have HK74:=kp hk4;have HW4:=kp (HW3.out.trans (hw4.mono hs3));have HM4:=kp hw4;have HK4:=kp (HK3.out.below hw4 hl3);have HQ4:=kp (HQ3.out.below hw4 (Nat.le_refl _));have hs4:=HW4.out.size;have hs34:=hw4.size;have hg7b : w.heap.size ≤ g7:=Nat.le_trans hs3 hg7;clear hk4 hw4)
      | ((with_reducible show Sn);refine j5 rfl 91 (.tmp 7) (.tmp 19) rfl g7 (pcC q) rfl rfl _ _ HK74.out (by rw [H17.out];exact jC) (by rw [H17.out];rfl) (jX q) ?_;intro w5 hk5 hgr5 hz5;have HM5:=kp (HM4.out.grown hgr5 hs34 (fun k e => by cases e;exact hg7));have HK75:=kp hk5;have HK5:=kp (HK3.out.below HM5.out hl3);have HQ5:=kp (HQ3.out.below HM5.out (Nat.le_refl _));have HW5:=kp (HW3.out.trans (HM5.out.mono hs3));have hs5:=HW5.out.size;have hl25:=HK5.out.lt;have hl75:=hk5.lt;clear hk5 hgr5 hz5)
      | ((with_reducible show Sl 24);go_must (refine j4 rfl 46 (.tmp 2) rfl g2 rfl _ (pgC p) _ HK5.out Try.underlying46 rfl jF ?_))
      | ((with_reducible show Sl 26);go_must (refine LK rfl 110 rfl ?_);intro gM w6 hgM hm6 hlM hw6;have HMp6:=kp (hm6 9 (plainElem Try.prog 4));have HGM:=kp (Nat.le_trans hs5 hgM);have HW6:=kp (HW5.out.trans (hw6.mono hs5));have HK6:=kp (HK5.out.below hw6 hl25);have HK76:=kp (HK75.out.below hw6 hl75);have HQ6:=kp (HQ5.out.below hw6 (Nat.le_refl _));have hs6:=HW6.out.size;have hl26:=HK6.out.lt;have hl76:=HK76.out.lt;clear hm6 hw6)
      | ((with_reducible show Sl 27);go_must (refine LL rfl 114 0 1 4 (.tmp 24) (.tmp 25) (.tmp 26) rfl (.agg (pgC p).toArray) (.int .i64 most) (.map (some gM)) rfl rfl rfl (srC p most (sr0 gM)) (YD _ _ _ _ _ _ _ _) ?_))
      | ((with_reducible show Sl 9);go_must (refine j7 rfl 114 rfl _ YO ?_);intro gS w7 hgS hk7 hw7;have HKS7:=kp hk7;have HGS:=kp hgS;have HM7:=kp hw7;have HlM:=kp hlM;clear hk7 hw7)
      | ((with_reducible show Sn);refine j5 rfl 114 (.tmp 9) (.tmp 27) rfl gS (srC p most (sr0 gM)) rfl rfl _ _ HKS7.out YP rfl (sr0_ones p most gM) ?_;intro w8 hk8 hgr8 hz8;have HM8:=kp (HM7.out.grown hgr8 HM7.out.size (fun k e => by cases e;exact HGS.out));have HKS8:=kp hk8;have HK8:=kp (HK6.out.below HM8.out hl26);have HK78:=kp (HK76.out.below HM8.out hl76);have HQ8:=kp (HQ6.out.below HM8.out (Nat.le_refl _));have HW8:=kp (HW6.out.trans (HM8.out.mono hs6));have hs8:=HW8.out.size;clear hk8 hgr8 hz8)
      | ((with_reducible show Sl 28);go_must (refine j4 rfl 91 (.tmp 7) rfl g7 rfl _ (pcC q) _ HK78.out Try.underlying91 rfl (by rw [H17.out];exact jC) ?_))
      | ((with_reducible show Sl 29);go_must (refine qB rfl 117 #[] rfl [] (by simp) _ QW ?_))
      | (go_at_call 52;fail))
    have hm8 : SkM w8 w.heap.size gS p most (sr0 gM) ⟨[],false⟩ 0 []:=SkM.new HKS8.out (by have:=HGS.out;omega) HGM.out (by obtain ⟨es,clock,h1,h2⟩:=HMp6.out;exact ⟨es,clock,(HM8.out.block _ HlM.out).trans h1,h2⟩)
    have HSM8:=kp hm8
    have hn2 : ¬ SkT (sr0 gM) gS g2:=fun e => by
      rcases e with e | e | e | e | e
      · have:=HGS.out;omega
      · have h1 : g2 = gM:=e
        omega
      · cases e
      · cases e
      · cases e
    have HN28:=kp hn2
    clear hm8 hn2
    have hq:=sk_put w.heap.size gS p HF.out HL.out most hmost (sr0 gM) ⟨[],false⟩ 0 [] w8 HSM8.out ⟨fun e he => (by cases he),.inr rfl,fun i j e f hi => (by simp at hi),fun i e hi => (by simp at hi)⟩ q HQ8.out (by rw [HCf.out];exact M.good_start HF.out) (by rw [HCf.out];exact K.low_start p) 0 0 false [] hs8
    go_must (refine hq.mono ?_)
    rintro e w9 ⟨rfl,r9,qs9,hm9,hs9⟩
    rw [HCf.out] at hm9
    have HM9 : Kept (SkM w9 w.heap.size gS p most r9 (K.st p most 0) 0 qs9):=kp hm9
    have HS9:=kp hs9
    clear hq hm9 hs9
    go_wp2
    go_loopw [10] (fun v10 wr => ∃ (k : Nat) (r : Sr) (qs : List Pc),k ≤ (K.st p most k).all.length ∧ v10 = .int .i64 (k : Int) ∧ SkM wr w.heap.size gS p most r (K.st p most k) k qs ∧ SkS w8 wr gS (sr0 gM) r ∧ (∀ j,j < k → j < (K.st p most j).all.length ∧ ¬ K.Racy p (K.en p most j).cf)) (fun v10 _ => 5000 - (intOf v10).toNat)
    case atStart => exact ⟨0,r9,qs9,by omega,rfl,HM9.out,HS9.out,fun j hj => by omega⟩
    case round =>
      obtain ⟨k,r,qs,hk,rfl,hm,hs,hall⟩:=hrel
      have HM:=kp hm;have HS:=kp hs;have HAll:=kp hall
      have hln : (K.st p most k).all.length = r.ln:=hm.pt.list.1
      have hlm : r.ln ≤ 5000:=by
        rcases K.st_len HF.out HL.out most k with h | h <;> omega
      have hle:=hm.le
      have HB:=kp (HS.out.under HSM8.out.pt HW8.out hs8)
      have hsr:=HB.out.size
      obtain ⟨hk2,hn2⟩:=HS.out.box HK8.out HN28.out
      have HK2:=kp hk2;have HN2:=kp hn2
      have hlr2:=hk2.lt
      have hSr:=hm.pt.blk.lt
      have hc5 : wr.cell? ⟨gS,5,none⟩ = some (.slice r.LA r.ln r.lc):=hm.pt.blk.cell 5
      have hc9 : wr.cell? ⟨gS,9,none⟩ = some (.bool r.left):=hm.pt.blk.cell 9
      clear hm hs hall hk2 hn2
      by_cases hlt : (k : Int) < (r.ln : Int)
      · have hkl : k < (K.st p most k).all.length:=by omega
        have HEk : Kept ((K.st p most k).all[k]? = some (K.en p most k)):=kp (K.en_at hkl)
        have HInv:=kp (K.inv_st HF.out HL.out most k)
        obtain ⟨q1,qs1,hqs,hq1⟩ : ∃ q1 qs1,qs = q1 :: qs1 ∧ q1.cf = (K.en p most k).cf ∧ qs1.map Pc.cf = ((K.st p most k).all.drop (k + 1)).map (·.cf):=HM.out.takes HEk.out
        subst hqs
        have HQ1:=kp hq1
        clear hq1
        go_wp2_with (go_at_call 53;fail)
        refine (sk_next w.heap.size gS p most r _ _ q1 qs1 wr HM.out.pt).mono ?_
        rintro e w2 ⟨rfl,r2,hp2,hs2,hl2,hm2⟩
        have HG1 : Kept (M.Good p q1.cf):=kp (by rw [HQ1.out.1];exact HInv.out.good _ (List.mem_of_getElem? HEk.out))
        have H117 : Kept ((pcC q1).length = 17):=kp (jW HG1.out.owns)
        have HM2 : Kept (SkM w2 w.heap.size gS p most r2 (K.st p most k) (k + 1) qs1):=kp ⟨hp2,hl2.trans HM.out.left,HQ1.out.2,by omega⟩
        have HS2:=kp (HS.out.trans hs2)
        have HB2:=kp (HS2.out.under HSM8.out.pt HW8.out hs8)
        have hsz2:=HB2.out.size
        have HQm2:=kp hm2
        have HE2:=kp (hs2.box HK2.out HN2.out)
        clear hp2 hs2 hl2 hm2
        have hlt2:=HE2.out.1.lt
        go_wp2_with (first
          | ((with_reducible show Sl 11);go_must (refine j7 rfl 91 rfl _ l7 ?_);intro g11 w3 hg11 hk3 hw3;have HK113:=kp hk3;have HG11:=kp hg11;have HX3:=kp hw3;clear hk3 hw3)
          | ((with_reducible show Sn);refine j5 rfl 91 (.tmp 11) (.tmp 38) rfl g11 (pcC q1) rfl rfl _ _ HK113.out (by rw [H117.out];exact jC) (by rw [H117.out];rfl) (jX q1) ?_;intro w4 hk4 hgr4 hz4;have HX4:=kp (HX3.out.grown hgr4 HX3.out.size (fun k e => by cases e;exact HG11.out));have HK114:=kp hk4;have HK24:=kp (HE2.out.1.below HX4.out hlt2);have HM4:=kp (HM2.out.below HX4.out (Nat.le_refl _));have HQm4:=kp (HQm2.out.below HX4.out (Nat.le_refl _));have HB4:=kp (HB2.out.trans (HX4.out.mono hsz2));have HS4:=kp (HS2.out.trans (SkS.below (gS:=gS) (r:=r2) HX4.out (Nat.le_refl _)));have hs4:=HB4.out.size;have hl114:=hk4.lt;have hl24:=HK24.out.lt;clear hk4 hgr4 hz4)
          | ((with_reducible show Sl 40);go_must (refine j4 rfl 46 (.tmp 2) rfl g2 rfl _ (pgC p) _ HK24.out Try.underlying46 rfl jF ?_))
          | ((with_reducible show Sl 41);go_must (refine j4 rfl 91 (.tmp 11) rfl g11 rfl _ (pcC q1) _ HK114.out Try.underlying91 rfl (by rw [H117.out];exact jC) ?_))
          | (go_at_call 46;fail))
        refine (Q4 w4.heap.size p HF.out q1 w4 (xR (HP.out.below (HB4.out.mono hB0)) (by omega)) HQm4.out.ok HG1.out (Nat.le_refl _)).mono ?_
        rintro e w5 ⟨x,y,z,b,rfl,hfst,hb5⟩
        have hs45:=hb5.size
        have HFst:=kp hfst
        have HK115:=kp (HK114.out.below hb5 hl114);have HM5:=kp (HM4.out.below hb5 (Nat.le_refl _));have HQm5:=kp (HQm4.out.below hb5 (Nat.le_refl _));have HB5:=kp (HB4.out.trans (hb5.mono hs4));have HS5:=kp (HS4.out.trans (SkS.below (gS:=gS) (r:=r2) hb5 (Nat.le_refl _)))
        have hs5:=HB5.out.size
        clear hfst hb5
        cases b with
        | true =>
          have HR : Kept (K.Racy p (K.en p most k).cf):=kp (by rw [← HQ1.out.1];exact (K.racy_of HFst.out).1 rfl)
          go_wp2_with (go_at_call 54;fail)
          refine (sk_path w.heap.size gS p most r2 _ _ qs1 w5 HM5.out.pt HInv.out.src k (K.en p most k) HEk.out (by omega)).mono ?_
          rintro e w6 ⟨A,n,cap,rfl,ho6,hn6,hb6⟩
          have HO6:=kp (ho6.less hs5);have HB6:=kp (HB5.out.trans (hb6.mono hs5));have hn5 : n ≤ 5000:=by omega
          clear ho6 hb6
          go_wp2
          (try simp only [Exit.inBlock,Exit.then])
          refine bodyPost_ret (results_tmp3 rfl _ _ _) rfl ?_
          exact ⟨A,n,cap,_,1,by rw [HCz.out];rfl,HO6.out,hn5,fun _ => ⟨k,HAll.out,.inl ⟨hkl,HR.out,rfl,rfl⟩⟩,fun h => absurd HCz.out h,HB6.out⟩
        | false =>
          have HR : Kept (¬ K.Racy p (K.en p most k).cf):=kp (by
            rw [← HQ1.out.1];intro h
            have:=(K.racy_of HFst.out).2 h
            exact absurd this (by decide))
          have HLo : Kept (K.Low p q1.cf):=kp (by rw [HQ1.out.1];exact K.low_all HF.out HL.out HInv.out (k + 1) k _ (by omega) HEk.out)
          go_wp2_with (first
            | ((with_reducible show Sl 51);go_must (refine j4 rfl 91 (.tmp 11) rfl g11 rfl _ (pcC q1) _ HK115.out Try.underlying91 rfl (by rw [H117.out];exact jC) ?_))
            | (go_at_call 55;fail))
          refine (sk_goOn w.heap.size B0 gS p HF.out HL.out most hmost r2 (K.st p most k) (k + 1) qs1 w5 HM5.out HInv.out q1 HQm5.out HLo.out k (K.en p most k) HEk.out HQ1.out.1 (HP.out.below (HB5.out.mono hB0)) hB0 hs5).mono ?_
          rintro e w6 ⟨rfl,r6,qs6,hm6,hs6⟩
          have HM6 : Kept (SkM w6 w.heap.size gS p most r6 (K.st p most (k + 1)) (k + 1) qs6):=kp (by rw [K.st_succ];exact hm6)
          have HS6:=kp (HS5.out.trans hs6)
          clear hm6 hs6
          go_wp2
          go_roundw
          case rel => exact ⟨k + 1,r6,qs6,by have:=(K.st_pre p most (show k ≤ k + 1 by omega)).len;omega,by go_num,HM6.out,HS6.out,fun j hj => by
            by_cases e : j = k
            · subst e;exact ⟨hkl,HR.out⟩
            · exact HAll.out j (by omega)⟩
          case measure => simp [intOf];omega
      · have hge : (K.st p most k).all.length ≤ k:=by omega
        cases hl : r.left with
        | true =>
          have HOut : Kept (K.Out p most [] 0):=kp ⟨k,HAll.out,.inr ⟨hge,rfl,by rw [← HM.out.left,hl];rfl⟩⟩
          rw [hl] at hc9
          go_wp2
          refine bodyPost_ret (results_tmp3 rfl _ _ _) rfl ?_
          exact ⟨none,0,0,[],0,by rw [HCz.out];rfl,OwnT.nil _ _ _ _ _,by omega,fun _ => HOut.out,fun h => absurd HCz.out h,HB.out⟩
        | false =>
          have HOut : Kept (K.Out p most [] 2):=kp ⟨k,HAll.out,.inr ⟨hge,rfl,by rw [← HM.out.left,hl];rfl⟩⟩
          rw [hl] at hc9
          go_wp2
          refine bodyPost_ret (results_tmp3 rfl _ _ _) rfl ?_
          exact ⟨none,0,0,[],2,by rw [HCz.out];rfl,OwnT.nil _ _ _ _ _,by omega,fun _ => HOut.out,fun h => absurd HCz.out h,HB.out⟩
theorem K.found_i64 {p : Pg} (hf : Fine p) (hl : p.fns.length = p.len) {l : List (Int × Bool)} (h : K.Found p l) : ∀ x ∈ l,I64 x.1:=by
  intro x hx
  obtain ⟨j,hj⟩:=List.mem_iff_getElem?.1 hx
  obtain ⟨h0,he⟩:=h.may j x hj
  have hlt:=M.lives_lt (M.enabled_lives he)
  have hm:=(qA hf hl l j).most
  have hm2 : (K.to p l j).ths.length ≤ 8:=hm
  unfold I64
  omega
theorem YH (x : Int) (h : (Lit.int .u16 x).wf = true) : 0 ≤ x ∧ x ≤ 65535:=by
  simp [Lit.wf,IntKind.min,IntKind.max,IntKind.bits,IntKind.signed] at h;omega
theorem T.pk_ok {p : Pg} (hf : Fine p) (hl : p.fns.length = p.len) {l : List (Int × Bool)} (h : K.Found p l) : ∀ y ∈ l,M.okP y:=by
  intro x hx
  obtain ⟨j,hj⟩:=List.mem_iff_getElem?.1 hx
  obtain ⟨h0,he⟩:=h.may j x hj
  have hlt:=M.lives_lt (M.enabled_lives he)
  have hm:=(qA hf hl l j).most
  have hm2 : (K.to p l j).ths.length ≤ 8:=hm
  exact ⟨h0,by omega⟩
set_option maxRecDepth 1000000 in
set_option maxHeartbeats 8000000 in
theorem walkWitFound (pg0 : Pg) (a1 : Int) (w : World) (w0 : pg0.Ok w w.heap.size) (w1 : (Lit.int .u16 a1).wf = true) :
    Calls Try.prog 8 #[pgA pg0,.int .u16 a1] w fun e w' => e = .returned (.bool true) ∧ Below w.heap.size w w':=by
  have HP:=kp w0
  have ha1:=YH a1 w1
  obtain ⟨r,hr⟩ : ∃ r,Q.small pg0 = r:=⟨_,rfl⟩
  have HR:=kp hr
  obtain ⟨⟨ca,cb,cc⟩,hc⟩ : ∃ x,Q.check pg0 = x:=⟨_,rfl⟩
  have HC:=kp hc
  clear hr w0 w1 hc
  rw [jL]
  go_enter Try.func8,Try.ntmps8
  go_wp2_with (first
    | ((with_reducible refine j6 rfl 46 (.tmp 0) rfl (pgC pg0) rfl ?_);intro g1 u1 hg1 hk1 hu1;have HK1:=kp hk1;have HU1:=kp hu1;have hz1:=hu1.size;have hl1:=hk1.lt;clear hg1 hk1 hu1)
    | (go_at_call 9;fail))
  refine (lR u1).mono ?_
  rintro e u2 ⟨rfl,hb2⟩
  have HU2:=kp (HU1.out.trans (hb2.mono hz1));have HK2:=kp (HK1.out.below hb2 hl1)
  have hs2:=HU2.out.size;have hl2:=HK2.out.lt
  clear hb2
  obtain ⟨hc0,hc1,hc2,hc3⟩:=jM HK2.out
  go_wp2_with (go_at_call 17;fail)
  refine (JD w.heap.size pg0 u2 (HP.out.below HU2.out) hs2 _ HR.out).mono ?_
  rintro e u3 ⟨rfl,hb3⟩
  have HU3:=kp (HU2.out.trans (hb3.mono hs2));have HK3:=kp (HK2.out.below hb3 hl2)
  have hs3:=HU3.out.size;have hl3:=HK3.out.lt
  clear hb3 hc0 hc1 hc2 hc3
  cases r
  · go_wp2_with (go_at_call 9;fail)
    refine (lR u3).mono ?_
    rintro e uz ⟨rfl,hbz⟩
    have HUz:=kp (HU3.out.trans (hbz.mono HU3.out.size))
    clear hbz
    go_wp2
    go_ret
    exact ⟨rfl,HUz.out⟩
  obtain ⟨hc0,hc1,hc2,hc3⟩:=jM HK3.out
  go_wp2_with (go_at_call 24;fail)
  refine (sk_find w.heap.size pg0 (a1 % 600) (by omega) u3 (HP.out.below HU3.out) hs3 ca cb cc HC.out).mono ?_
  unfold FindPost
  rintro e u4 ⟨L4,n4,c4,l4,is4,rfl,ho4,hn4,hout4,hno4,hb4⟩
  have HO4:=kp (ho4.less hs3);have HOut4:=kp hout4;have HNo4:=kp hno4;have HU4:=kp (HU3.out.trans (hb4.mono hs3));have HK4:=kp (HK3.out.below hb4 hl3)
  have hs4:=HU4.out.size;have hl4:=HK4.out.lt
  clear ho4 hout4 hno4 hb4 hc0 hc1 hc2 hc3
  by_cases hz : cc = 0
  rotate_left
  · have hb0 : ((cc : Int) != 0) = true:=by simpa using hz
    clear hz
    go_wp2
    go_ret
    exact ⟨rfl,HU4.out⟩
  have HCz : Kept ((cc : Int) = 0):=kp (by omega)
  have hb0 : ((cc : Int) != 0) = false:=by rw [HCz.out];rfl
  have HO:=kp (HOut4.out hz)
  by_cases his : is4 = 1
  rotate_left
  · have hb1 : ((is4 : Int) != 1) = true:=by rw [bne_iff_ne];omega
    go_wp2
    go_ret
    exact ⟨rfl,HU4.out⟩
  subst his
  have HF : Kept (Fine pg0):=kp (xT (by rw [HC.out,hz]))
  have HL : Kept (pg0.fns.length = pg0.len):=kp HP.out.row.len
  obtain ⟨hfd,hlm⟩:=K.out_found HF.out HL.out HO.out
  have hl4' : l4.length = n4:=HO4.out.1
  have hn6 : n4 ≤ 600:=by omega
  have HLn:=kp hl4'
  have HFd:=kp hfd;have HPo:=kp (T.pk_ok HF.out HL.out hfd)
  have HPk : Kept (Picks u4 u4.heap.size L4 n4 l4):=kp ⟨HO4.out.recs,K.found_i64 HF.out HL.out hfd⟩
  have HGd : Kept (M.Good pg0 (runTo pg0 l4 n4)):=kp (qA HF.out HL.out l4 n4)
  have HCc : Kept (Q.check pg0 = (ca,cb,0)):=kp (by rw [HC.out,hz])
  obtain ⟨hc0,hc1,hc2,hc3⟩:=jM HK4.out
  clear hfd hlm hl4' hz
  go_wp2_with (go_at_call 21;fail)
  refine (wi_of u4.heap.size pg0 L4 n4 c4 l4 u4 ((HP.out.below HU4.out).more13 hs4) HPk.out (by omega) (Nat.le_refl _) ca cb 0 HCc.out).mono ?_
  unfold OfPost
  rintro e u5 ⟨x,ok,rfl,hxok,hnone,_,hfi,hz5,hb5⟩
  have hfi':=hfi HPo.out rfl
  have hok : ok = true:=by
    have h1:=(K.racy_of hfi').2 (by have hr:=HFd.out.race;rw [HLn.out] at hr;exact hr)
    cases ok with
    | true => rfl
    | false => exact absurd h1 (by simp)
  subst hok
  have HX5:=kp hxok;have HZ5:=kp (hz5 rfl)
  have HFi : Kept (M.FirstIs pg0 (runTo pg0 l4 n4) x.a x.b x.g 1):=kp hfi'
  have HU5:=kp (HU4.out.trans (hb5.mono hs4));have HK5:=kp (HK4.out.below hb5 hl4)
  have hs5:=HU5.out.size;have hl5:=HK5.out.lt
  clear hxok hnone hfi hz5 hb5 hfi' hc0 hc1 hc2 hc3
  have HXk : Kept (∀ W,Below u5.heap.size u5 W → x.Ok W W.heap.size):=kp (fun W hW => (HX5.out.below hW).more hW.size)
  have HFO:=kp (T.first_ok HF.out HGd.out HFi.out)
  obtain ⟨hxz,hxl⟩:=HZ5.out
  have HCk : Kept (x.check = 0):=kp (T.check_fine (by rw [hxz,HLn.out];omega) (by rw [hxz];exact HPo.out) HFO.out.1)
  have HPr : Kept (M.pair pg0 (runTo pg0 x.z x.len) x.a x.b x.g = true):=kp (by rw [hxz,hxl];exact HFO.out.2)
  have hxl6 : x.len ≤ 600:=by omega
  clear hxz hxl
  rw [l6]
  go_wp2_with (first
    | ((with_reducible show Sl 8);go_must (refine j7 rfl 24 rfl _ lW ?_);intro g8 u6 hg8 hk6 hu6;have KW6:=kp hk6;have HB56:=kp hu6;have HK6:=kp (HK5.out.below hu6 hl5);have hs6:=hu6.size;clear hk6 hu6)
    | ((with_reducible show Sn);(refine j5 rfl 24 (.tmp 8) (.tmp 39) rfl g8 (wtC x) rfl rfl _ _ KW6.out jD rfl (jU x) ?_);intro u7 hk7 hg7 hz7
       have KW7:=kp hk7;have HB57:=kp (HB56.out.grown hg7 hs6 (fun k e => by cases e;exact hg8));have HK7:=kp (HK6.out.grown hg7 (fun e => by cases e;omega));have HU7:=kp (HU5.out.trans (HB57.out.mono hs5))
       have hs7:=HU7.out.size
       clear hk7 hg7)
    | ((with_reducible show Sl 42);go_must (refine j4 rfl 46 (.tmp 2) rfl g1 rfl _ (pgC pg0) _ HK7.out Try.underlying46 rfl jF ?_))
    | ((with_reducible show Sl 43);go_must (refine j4 rfl 24 (.tmp 8) rfl g8 rfl _ (wtC x) _ KW7.out Try.underlying24 rfl jD ?_))
    | (go_at_call 18;fail))
  rw [← jL,← l6]
  refine (LP u7.heap.size pg0 x u7 ((HP.out.below HU7.out).more13 hs7) (HXk.out u7 HB57.out) (by omega) (Nat.le_refl _) 0 HCk.out ca cb 0 HCc.out true 0 (fun h => absurd rfl h) (fun _ h => absurd rfl h) (fun _ _ => ⟨HPr.out,rfl⟩)).mono ?_
  rintro e u8 ⟨rfl,hb8⟩
  have HU8:=kp (HU7.out.trans (hb8.mono hs7))
  clear hb8
  go_wp2
  go_ret
  exact ⟨rfl,HU8.out⟩
end Go.Proofs.Ytcbfghcdbmlneaa
