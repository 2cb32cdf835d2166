/- SeekP5, SeekP6, SemStart2, RaceIn, RaceP1, RaceP2, RaceP3. -/
import Derived.Test.YtnaomfmmkhgbhaaSeekP4
import Derived.Test.YtnaomfmmkhgbhaaPk6
import Derived.Test.YtnaomfmmkhgbhaaPk10
import Derived.Test.YtnaomfmmkhgbhaaPk5
import Derived.Test.YtnaomfmmkhgbhaaProgRef5
import Derived.BigQuiet
import Derived.Test.YtnaomfmmkhgbhaaPk4
import Derived.Test.YtnaomfmmkhgbhaaPk8
namespace Go.Proofs.Ytnaomfmmkhgbhaa
open Go.RowKit
theorem Blk.sets2 {g : Nat} {t : TypeId} : ∀ (vs : List Value) (o : Nat) (cur : List Value) (w : World),Blk w g t cur → o + vs.length ≤ cur.length →
    ∃ cur',Blk (w.setCells g o vs) g t cur' ∧ cur'.length = cur.length ∧ (∀ i,cur'[i]? = if i < o then cur[i]? else if i < o + vs.length then vs[i - o]? else cur[i]?) ∧ w.grownBy (w.setCells g o vs) (some g)
  | [],o,cur,w,h,_ => ⟨cur,h,rfl,fun i => by
      by_cases h1 : i < o
      · rw [if_pos h1]
      · rw [if_neg h1,if_neg (by simp;omega)],World.grownBy.refl w _⟩
  | v :: r,o,cur,w,h,hl => by
    rw [List.length_cons] at hl
    obtain ⟨cur',h1,h2,h3,h4⟩:=Blk.sets2 r (o + 1) _ _ (h.set o v) (by rw [List.length_set];omega)
    refine ⟨cur',h1,by rw [h2,List.length_set],fun i => ?_,?_⟩
    · rw [h3 i,List.length_cons]
      by_cases e0 : i = o
      · subst e0
        rw [if_pos (by omega),if_neg (by omega),if_pos (by omega),List.getElem?_set_self (by omega),Nat.sub_self];rfl
      · rw [List.getElem?_set_ne (by omega)]
        by_cases e1 : i < o
        · rw [if_pos (by omega),if_pos e1]
        · rw [if_neg (by omega),if_neg e1]
          by_cases e2 : i < o + (r.length + 1)
          · rw [if_pos (by omega),if_pos e2,show i - o = (i - (o + 1)) + 1 by omega];rfl
          · rw [if_neg (by omega),if_neg e2]
    · have hg:=lQ w g o v
      exact ⟨h4.os.trans hg.os,h4.tape.trans hg.tape,h4.output.trans hg.output,Nat.le_trans hg.size h4.size,fun i hi hne => (h4.block i (Nat.lt_of_lt_of_le hi hg.size) hne).trans (hg.block i hi hne)⟩
theorem wpList_store_row {α : Type} {sz : Nat} {f : α → Nat → Value} {B n cap : Nat} {e : TypeId} {l : List α} {P : Program} {ops : Array Oper} {rest : List Oper} {op : Oper} {a : Act} {w : World} {Q : Exit → Act → World → Prop} (hgd : op.guard = none) (ty : TypeId) (x y : Operand) (ho : op.op = .store ty x y)
    (g off k : Nat) (u : α) (cs : List Value) (hx : a.eval x = .pointer (some ⟨g,off + k * sz,none⟩)) (hy : a.eval y = .agg cs.toArray) (hr : OwnT sz f w B e (some ⟨g,off,none⟩) n cap l) (hk : k < n)
    (hcs : ∀ j,j < sz → cs[j]? = some (f u j)) (hlen : cs.length = sz) (hi : (P.info? ty).map (·.size) = some cs.length) (h1 : ∀ v ∈ cs,v.oneCell' = true)
    (h : ∀ w',OwnT sz f w' B e (some ⟨g,off,none⟩) n cap (l.set k u) → w.grownBy w' (some g) → wpList P ops Q rest (a.put op.dst undef) w') : wpList P ops Q (op :: rest) a w:=by
  obtain ⟨a1,a2,a3,a4⟩:=hr
  rcases a4 with ⟨h0,_⟩ | ⟨g',off',cur,hA,hB,hb,hs,hc⟩
  · cases h0
  injection hA with hA
  injection hA with e1 e2
  subst e1 e2
  have hle : (k + 1) * sz ≤ cap * sz:=Nat.mul_le_mul_right _ (by omega)
  have hle2 : (k + 1) * sz = k * sz + sz:=by rw [Nat.add_mul];omega
  obtain ⟨cur',h2,h3,h4,h5⟩:=Blk.sets2 cs (off + k * sz) cur w hb (by omega)
  refine wpList_store_mid hgd ty x y ho g (off + k * sz) cs.toArray hx hy (fun j hj => ⟨?_,hb.frozen _⟩) (by simpa using hi) (all_oneCell_toArray h1) (h _ ⟨by rw [List.length_set];exact a1,a2,a3,.inr ⟨g,off,cur',rfl,hB,by simpa using h2,by omega,fun i z hz j hj => ?_⟩⟩ (by simpa using h5))
  · have hj' : j < cs.length:=by simpa using hj
    rw [hb.cell,List.getElem?_eq_getElem (by omega)];rfl
  · rw [h4,hlen]
    by_cases e : i = k
    · subst e
      rw [List.getElem?_set_self (by omega)] at hz
      have hz2 : u = z:=Option.some.inj hz
      rw [if_neg (by omega),if_pos (by omega),← hz2,show off + i * sz + j - (off + i * sz) = j by omega]
      exact hcs j hj
    · rw [List.getElem?_set_ne (fun e2 => e e2.symm)] at hz
      have h6:=hc i z hz j hj
      rcases Nat.lt_or_ge i k with e3 | e3
      · have : (i + 1) * sz ≤ k * sz:=Nat.mul_le_mul_right _ (by omega)
        rw [Nat.add_mul] at this
        rw [if_pos (by omega)];exact h6
      · have : (k + 1) * sz ≤ i * sz:=Nat.mul_le_mul_right _ (by omega)
        rw [if_neg (by omega),if_neg (by omega)];exact h6
theorem OwnT.cellAt {α : Type} {sz : Nat} {f : α → Nat → Value} {w : World} {B n cap g off : Nat} {e : TypeId} {l : List α} (h : OwnT sz f w B e (some ⟨g,off,none⟩) n cap l) {k : Nat} {x : α} (hx : l[k]? = some x) {j : Nat} (hj : j < sz) : w.cell? ⟨g,off + k * sz + j,none⟩ = some (f x j):=by
  rcases h.2.2.2 with ⟨h0,_⟩ | ⟨g',off',cur,hA,hB,hb,hs,hc⟩
  · cases h0
  injection hA with hA
  injection hA with e1 e2
  subst e1 e2
  rw [hb.cell];exact hc k x hx j hj
def Turned {α : Type} (l l1 : List α) (n k : Nat) : Prop:=l1.length = n ∧ ∀ m,m < n → l1[m]? = if m < k ∨ n ≤ m + k then l[n - 1 - m]? else l[m]?
theorem Turned.done {α : Type} {l l1 : List α} {n k : Nat} (h : Turned l l1 n k) (hl : l.length = n) (hk : n ≤ 2 * k + 1) : l1 = l.reverse:=by
  refine List.ext_getElem? fun m => ?_
  rcases Nat.lt_or_ge m n with hm | hm
  · rw [h.2 m hm,List.getElem?_reverse (by omega),hl]
    by_cases e : m < k ∨ n ≤ m + k
    · rw [if_pos e]
    · rw [if_neg e];congr 1;omega
  · rw [List.getElem?_eq_none (by rw [h.1];exact hm),List.getElem?_eq_none (by rw [List.length_reverse];omega)]
theorem Turned.step {α : Type} {l l1 : List α} {n k : Nat} (h : Turned l l1 n k) {x y : α} (hk : k < n - 1 - k) (hx : l1[k]? = some x) (hy : l1[n - 1 - k]? = some y) : Turned l ((l1.set k y).set (n - 1 - k) x) n (k + 1):=by
  refine ⟨by simp [h.1],fun m hm => ?_⟩
  have hx2:=h.2 k (by omega);have hy2:=h.2 (n - 1 - k) (by omega)
  rw [if_neg (by omega),hx] at hx2
  rw [if_neg (by omega),hy] at hy2
  by_cases e1 : m = n - 1 - k
  · subst e1
    rw [List.getElem?_set_self (by rw [List.length_set,h.1];omega),if_pos (by omega),hx2];congr 1;omega
  · rw [List.getElem?_set_ne (fun e => e1 e.symm)]
    by_cases e2 : m = k
    · subst e2
      rw [List.getElem?_set_self (by rw [h.1];omega),if_pos (by omega),hy2]
    · rw [List.getElem?_set_ne (fun e => e2 e.symm),h.2 m hm]
      by_cases e3 : m < k ∨ n ≤ m + k
      · rw [if_pos e3,if_pos (by omega)]
      · rw [if_neg e3,if_neg (by omega)]
def pkC (x : Int × Bool) : List Value:=[.int .i64 x.1,.bool x.2]
theorem vE (x : Int × Bool) : ∀ j,j < 2 → (pkC x)[j]? = some (pkV x j):=fun j hj => by
  rcases j with _ | _ | j
  · rfl
  · rfl
  · omega
theorem vX (x : Int × Bool) : ∀ v ∈ pkC x,v.oneCell' = true:=fun v hv => by
  simp only [pkC,List.mem_cons,List.not_mem_nil,or_false] at hv
  rcases hv with rfl | rfl <;> rfl
theorem OwnT.pick {w : World} {B n cap g off : Nat} {e : TypeId} {l : List (Int × Bool)} (h : OwnT 2 pkV w B e (some ⟨g,off,none⟩) n cap l) {k : Nat} {x : Int × Bool} (hx : l[k]? = some x) : ∀ j v,(pkC x)[j]? = some v → w.cell? ((⟨g,off + k * 2,none⟩ : Addr).add j) = some v:=fun j v hv => by
  have hj : j < 2:=(List.getElem?_eq_some_iff.1 hv).1
  rw [Addr.add_mid,h.cellAt hx hj,← vE x j hj];exact hv
set_option maxRecDepth 100000 in
set_option maxHeartbeats 3200000 in
theorem YI (B n cap : Nat) (A : Option Addr) (l : List (Int × Bool)) (w : World) (h : OwnT 2 pkV w B 51 A n cap l) (hn : n ≤ 5000) :
    Calls Try.prog 45 #[.slice A n cap] w fun e w' => e = .returned (.tuple #[]) ∧ OwnT 2 pkV w' B 51 A n cap l.reverse ∧ w.grownBy w' (Value.slice A n cap).ownBlock:=by
  have H:=kp h
  have hl:=h.1;have hnc:=h.2.1;have hcm:=h.2.2.1
  unfold maxLen at hcm
  clear h
  go_enter Try.func45,Try.ntmps45
  go_wp2
  go_loopw [2,3] (fun v2 v3 wr => ∃ (k : Nat) (l1 : List (Int × Bool)),k ≤ n ∧ v2 = .int .i64 (k : Int) ∧ v3 = .int .i64 ((n : Int) - 1 - k) ∧ Turned l l1 n k ∧ OwnT 2 pkV wr B 51 A n cap l1 ∧ w.grownBy wr (Value.slice A n cap).ownBlock) (fun v2 _ _ => n - (intOf v2).toNat)
  case atStart => exact ⟨0,l,by omega,rfl,by go_num,⟨hl,fun m hm => by rw [if_neg (by omega)]⟩,H.out,World.grownBy.refl w _⟩
  case round =>
    obtain ⟨k,l1,hk,rfl,rfl,hT,hO,hG⟩:=hrel
    have HT:=kp hT;have HO:=kp hO;have HG:=kp hG
    clear hT hO hG
    by_cases hlt : (k : Int) < (n : Int) - 1 - k
    · obtain ⟨b,hb⟩ : ∃ b : Nat,b = n - 1 - k:=⟨_,rfl⟩
      have hbi : (n : Int) - 1 - k = (b : Int):=by omega
      obtain ⟨g,off,rfl⟩ : ∃ g off,A = some ⟨g,off,none⟩:=by
        rcases HO.out.2.2.2 with ⟨_,h0⟩ | ⟨g,off,cur,hA,_⟩
        · omega
        · exact ⟨g,off,hA⟩
      obtain ⟨x,hx⟩ : ∃ x,l1[k]? = some x:=⟨_,List.getElem?_eq_getElem (by rw [HT.out.1];omega)⟩
      obtain ⟨y,hy⟩ : ∃ y,l1[b]? = some y:=⟨_,List.getElem?_eq_getElem (by rw [HT.out.1];omega)⟩
      have HX:=kp hx;have HY:=kp hy
      have hkn : k < n:=by omega
      have hbn : b < n:=by omega
      rw [hbi] at hlt ⊢
      have HBe:=kp hb
      clear hx hy hb hbi
      go_wp2
      apply lY (fun k => k = g) [13,15] [0,1,4,5,6,7,8,9,10,11,12] (phs ([fun W => OwnT 2 pkV W B 51 (some ⟨g,off,none⟩) n cap l1,fun W => OwnT 2 pkV W B 51 (some ⟨g,off,none⟩) n cap (l1.set k y),fun W => OwnT 2 pkV W B 51 (some ⟨g,off,none⟩) n cap ((l1.set k y).set b x)])) (.is _ :: .is _ :: .is _ :: .is _ :: .is _ :: .is _ :: .is (.pointer (some ⟨g,off + b * 2,none⟩)) :: .is (.agg (pkC y).toArray) :: .is _ :: .is _ :: .is (.pointer (some ⟨g,off + k * 2,none⟩)) :: .is (.agg (pkC x).toArray) :: .is (.pointer (some ⟨g,off + k * 2,none⟩)) :: .any _ :: .is (.pointer (some ⟨g,off + b * 2,none⟩)) :: .any _ :: [])
        [[],[],[],[],[],[],[(4,18),(5,19)],[(6,20)],[],[],[(8,22),(9,23)],[(10,24)],[(0,14),(1,15)],[(12,26),(7,21)],[(2,16),(3,17)],[(14,27),(11,25)]]
        [(0,14),(1,15),(2,16),(3,17),(4,18),(5,19),(6,20),(7,21),(8,22),(9,23),(10,24),(11,25),(12,26),(14,27)] (by kernel_rfl) (by kernel_rfl) (by kernel_rfl) (by kernel_rfl) (by decide)
      case h0 => exact HO.out.below (below_drewN (Below.refl wr.heap.size wr) 1) (Nat.le_refl _)
      case hob =>
        refine j7 rfl rfl ?o0 (j7 rfl rfl ?o1 (lA rfl rfl ?o2 (lA rfl rfl ?o3 (j7 rfl rfl ?o4 (j7 rfl rfl ?o5 (j7 rfl rfl ?o6 (j7 rfl rfl ?o7 (j7 rfl rfl ?o8 (j7 rfl rfl ?o9 (j7 rfl rfl ?o10 (j7 rfl rfl ?o11 (j7 rfl rfl ?o12 (lR 0 rfl rfl ?o13 (lA rfl rfl ?o14 (lR 1 rfl rfl ?o15 (xS))))))))))))))))
        case o0 => intro W hO hJ;change wpList _ _ _ _ _ _;go_wp2;exact j9 rfl rfl rfl hJ
        case o1 => intro W hO hJ;change wpList _ _ _ _ _ _;go_wp2;exact j9 rfl rfl rfl hJ
        case o2 => intro p W hO hJ;change wpList _ _ _ _ _ _;go_wp2;exact j9 rfl rfl rfl hJ
        case o3 => intro p W hO hJ;change wpList _ _ _ _ _ _;go_wp2;exact j9 rfl rfl rfl hJ
        case o4 => intro W hO hJ;change wpList _ _ _ _ _ _;go_wp2;exact j9 rfl rfl rfl hJ
        case o5 => intro W hO hJ;change wpList _ _ _ _ _ _;go_wp2;exact j9 rfl rfl rfl hJ
        case o6 => intro W hO hJ;rintro _ rfl;rintro _ rfl;change wpList _ _ _ _ _ _;go_wp2;exact j9 rfl rfl rfl hJ
        case o7 =>
          intro W hO hJ;rintro _ rfl;change wpList _ _ _ _ _ _
          have hJ1 : OwnT 2 pkV W B 51 (some ⟨g,off,none⟩) n cap l1:=hJ
          go_must (refine jM rfl 51 (.tmp 20) rfl ⟨g,off + b * 2,none⟩ rfl (pkC y) _ (hJ1.pick HY.out) Try.underlying51 rfl jY ?_)
          go_wp2;exact j9 rfl rfl rfl hJ
        case o8 => intro W hO hJ;change wpList _ _ _ _ _ _;go_wp2;exact j9 rfl rfl rfl hJ
        case o9 => intro W hO hJ;change wpList _ _ _ _ _ _;go_wp2;exact j9 rfl rfl rfl hJ
        case o10 => intro W hO hJ;rintro _ rfl;rintro _ rfl;change wpList _ _ _ _ _ _;go_wp2;exact j9 rfl rfl rfl hJ
        case o11 =>
          intro W hO hJ;rintro _ rfl;change wpList _ _ _ _ _ _
          have hJ1 : OwnT 2 pkV W B 51 (some ⟨g,off,none⟩) n cap l1:=hJ
          go_must (refine jM rfl 51 (.tmp 24) rfl ⟨g,off + k * 2,none⟩ rfl (pkC x) _ (hJ1.pick HX.out) Try.underlying51 rfl jY ?_)
          go_wp2;exact j9 rfl rfl rfl hJ
        case o12 => intro W hO hJ;rintro _ rfl;rintro _ rfl;change wpList _ _ _ _ _ _;go_wp2;exact j9 rfl rfl rfl hJ
        case o13 =>
          intro W hO hJ;rintro _ rfl;rintro _ rfl;change wpList _ _ _ _ _ _
          have hJ1 : OwnT 2 pkV W B 51 (some ⟨g,off,none⟩) n cap l1:=hJ
          have HJ1:=kp hJ1;clear hJ hJ1
          go_must (refine wpList_store_row rfl 51 (.tmp 26) (.tmp 21) rfl g off k y (pkC y) rfl rfl HJ1.out (by omega) (vE y) rfl jY (vX y) ?_)
          intro W2 ho2 hg2
          have HO2:=kp ho2;have HG2 : Kept (Only (fun k => k = g) W W2):=kp ⟨hg2.os,hg2.tape,hg2.output,hg2.size,fun i hi hne => hg2.block i hi (fun e => hne (Option.some.inj e))⟩;clear ho2 hg2
          go_wp2
          exact qL rfl HG2.out HO2.out
        case o14 => intro p W hO hJ;rintro _ rfl;rintro _ rfl;change wpList _ _ _ _ _ _;go_wp2;exact j9 rfl rfl rfl hJ
        case o15 =>
          intro W hO hJ;rintro _ rfl;rintro _ rfl;change wpList _ _ _ _ _ _
          have hJ1 : OwnT 2 pkV W B 51 (some ⟨g,off,none⟩) n cap (l1.set k y):=hJ
          have HJ1:=kp hJ1;clear hJ hJ1
          go_must (refine wpList_store_row rfl 51 (.tmp 27) (.tmp 25) rfl g off b x (pkC x) rfl rfl HJ1.out (by omega) (vE x) rfl jY (vX x) ?_)
          intro W2 ho2 hg2
          have HO2:=kp ho2;have HG2 : Kept (Only (fun k => k = g) W W2):=kp ⟨hg2.os,hg2.tape,hg2.output,hg2.size,fun i hi hne => hg2.block i hi (fun e => hne (Option.some.inj e))⟩;clear ho2 hg2
          go_wp2
          exact qL rfl HG2.out HO2.out
      case hend =>
        intro W hO hJ;rintro _ rfl;rintro _ rfl;rintro _ rfl;rintro _ rfl;rintro _ rfl;rintro _ rfl;rintro _ rfl;rintro _ rfl;rintro _ rfl;rintro _ rfl;rintro _ rfl;rintro _ rfl;rintro _ rfl;rintro _ rfl
        simp only [ggiven,jF,List.set]
        have HOw : Kept (OwnT 2 pkV W B 51 (some ⟨g,off,none⟩) n cap ((l1.set k y).set b x)):=kp hJ
        have HGw : Kept (w.grownBy W (some g)):=kp ⟨hO.os.trans HG.out.os,hO.tape.trans HG.out.tape,hO.output.trans HG.out.output,Nat.le_trans HG.out.size hO.size,fun i hi hne => (hO.block i (Nat.lt_of_lt_of_le hi HG.out.size) (fun e => hne (by rw [e]))).trans (HG.out.block i hi hne)⟩
        clear hO hJ
        go_wp2
        go_roundw
        case rel => exact ⟨k + 1,_,by omega,by go_num,by have:=HBe.out;go_num,by have h1:=HBe.out;rw [h1];exact HT.out.step (by omega) HX.out (by rw [← h1];exact HY.out),HOw.out,HGw.out⟩
        case measure => simp [intOf];omega
    · have HR : Kept (l1 = l.reverse):=kp (HT.out.done hl (by omega))
      go_wp2
      go_end0
      exact ⟨rfl,HR.out ▸ HO.out,HG.out⟩
theorem xC : (Try.prog.info? 51).map (fun i => (i.zero,i.size,i.bytes)) = some (some (.agg #[.int .i64 0,.bool false]),2,16):=by kernel_rfl
theorem yP : (Try.prog.info? 51).map (fun i => (i.zero.map (·.cells.size),i.size)) = some (some 2,2):=by kernel_rfl
theorem yI (x : Int × Bool) (j : Nat) : (pkV x j).oneCell' = true:=by
  rcases j with _ | j <;> rfl
def PathPost (e : K.En) (at0 : Nat) (w : World) : Ending → World → Prop:=fun e' w' => ∃ (A : Option Addr) (n cap : Nat),e' = .returned (.slice A n cap) ∧ OwnT 2 pkV w' w.heap.size 51 A n cap e.path ∧ n ≤ at0 ∧ Below w.heap.size w w'
set_option maxRecDepth 100000 in
set_option maxHeartbeats 3200000 in
theorem sk_path (B gS : Nat) (p : Pg) (most : Int) (r : Sr) (l : List K.En) (m : List (List Nat)) (qs : List Pc) (w : World) (hm : SkP w B gS p most r l m qs) (hsrc : ∀ i e,l[i]? = some e → K.From p l i e) (at0 : Nat) (e : K.En) (he : l[at0]? = some e) (hlen : l.length ≤ 5000) :
    Calls Try.prog 22 #[.pointer (some ⟨gS,0,none⟩),.int .i64 (at0 : Int)] w (PathPost e at0 w):=by
  unfold PathPost
  have hat : at0 < l.length:=(List.getElem?_eq_some_iff.1 he).1
  have HM:=kp hm;have HSrc:=kp hsrc;have HE:=kp he
  have hS0:=hm.blk.lt
  have hln:=hm.list.1
  obtain ⟨gL,off,cur,hLA,hbL⟩ : ∃ gL off cur,r.LA = some ⟨gL,off,none⟩ ∧ Blk w gL 64 cur:=by
    rcases hm.list.2.2.2 with ⟨_,h0⟩ | ⟨g,o,cur,h1,_,h2,_⟩
    · have:=hm.list.2.1;omega
    · exact ⟨g,o,cur,h1,h2⟩
  have HLA:=kp hLA
  have hL0:=hbL.lt
  have HO0 : Kept (OwnT 3 orV w B 64 (some ⟨gL,off,none⟩) r.ln r.lc l):=kp (by rw [← hLA];exact hm.list)
  clear hm hsrc he hLA hbL
  have hcm:=HM.out.list.2.2.1
  have hnc:=HM.out.list.2.1
  unfold maxLen at hcm
  go_enter Try.func22,Try.ntmps22
  go_wp2
  go_loopw [1,5] (fun v1 v5 wr => ∃ (a1 : Nat) (f : K.En) (ps : List (Int × Bool)) (A : Option Addr) (n cap : Nat),v1 = .int .i64 (a1 : Int) ∧ v5 = .slice A n cap ∧ l[a1]? = some f ∧ e.path = f.path ++ ps.reverse ∧ n + a1 ≤ at0 ∧ OwnT 2 pkV wr w.heap.size 51 A n cap ps ∧ Below w.heap.size w wr) (fun v1 _ _ => (intOf v1).toNat)
  case atStart => exact ⟨at0,e,[],none,0,0,rfl,rfl,HE.out,by simp,by omega,OwnT.nil _ _ _ _ _,Below.refl _ _⟩
  case round =>
    obtain ⟨a1,f,ps,A,n,cap,rfl,rfl,hf,hpath,hna,hO,hB⟩:=hrel
    have HF:=kp hf;have HPa:=kp hpath;have HO:=kp hO;have HB:=kp hB
    have hsz:=hB.size
    have ha1 : a1 < l.length:=(List.getElem?_eq_some_iff.1 hf).1
    have hnc1:=hO.2.1;have hcm1:=hO.2.2.1
    unfold maxLen at hcm1
    clear hf hpath hO hB
    by_cases hlt : 0 < (a1 : Int)
    · obtain ⟨hs1,f2,hf2,hpf⟩ : f.src < a1 ∧ ∃ f2,l[f.src]? = some f2 ∧ f.path = f2.path ++ [((f.who : Int),f.way)]:=by
        rcases HSrc.out a1 f HF.out with ⟨h0,_⟩ | ⟨_,h1,f2,h2,_,_,h3⟩
        · omega
        · exact ⟨h1,f2,h2,h3⟩
      have HF2:=kp hf2;have HPf:=kp hpf
      clear hf2 hpf
      have hk1:=HM.out.blk.below HB.out hS0
      have hc5 : wr.cell? ⟨gS,5,none⟩ = some (.slice (some ⟨gL,off,none⟩) r.ln r.lc):=by rw [hk1.cell 5,show (srC p most r)[5]? = some (.slice r.LA r.ln r.lc) from rfl,HLA.out]
      have hai : (a1 : Int) < (r.ln : Int):=by omega
      have HOr : Kept (OwnT 3 orV wr B 64 (some ⟨gL,off,none⟩) r.ln r.lc l):=kp (HO0.out.below HB.out (Nat.le_refl _))
      clear hk1
      have HPk : Kept (∀ j v,(pkC ((f.who : Int),f.way))[j]? = some v → wr.cell? ((⟨gL,off + a1 * 3 + 1,none⟩ : Addr).add j) = some v):=kp fun j v hv => by
        have hj : j < 2:=(List.getElem?_eq_some_iff.1 hv).1
        rw [Addr.add_mid,show off + a1 * 3 + 1 + j = off + a1 * 3 + (1 + j) by omega,HOr.out.cellAt HF.out (show 1 + j < 3 by omega),← hv,vE _ j hj]
        rcases j with _ | _ | j
        · rfl
        · rfl
        · omega
      go_wp2_with (first
        | ((with_reducible show Sl 16);go_must (refine jM rfl 51 (.tmp 15) rfl ⟨gL,off + a1 * 3 + 1,none⟩ rfl (pkC ((f.who : Int),f.way)) _ HPk.out Try.underlying51 rfl jY ?_))
        | ((with_reducible show Sl 17);go_must (refine j8 rfl 27 51 (.tmp 16) rfl 2 Try.underlying27 yP (by decide) (by decide) (.agg (pkC ((f.who : Int),f.way)).toArray) (pkC ((f.who : Int),f.way)) rfl rfl rfl ?_);intro g6 w6 hg6 hk6 hb6;have HK6:=kp hk6;have HB6:=kp (HB.out.trans (hb6.mono hsz));have HO6:=kp (HO.out.below hb6 (Nat.le_refl _));have hs6:=HB6.out.size;clear hk6 hb6)
        | (at_builtin;go_must (refine jS rfl (.tmp 8) (.tmp 17) 27 rfl Try.underlying27 xC rfl yI rfl HO6.out ((f.who : Int),f.way) ⟨g6,0,none⟩ 1 rfl (fun j hj => by rw [Addr.add_mid,Nat.zero_add,HK6.out.cell];exact vE _ j hj) (by unfold maxLen;omega) (by omega) hs6 ?_);intro A9 c9 w9 hown9 hgr9;have HO9:=kp hown9;have HB9:=kp (HB6.out.grown hgr9.1 hs6 (fun k hk => (HO6.out.block k hk).1));have hc5 : w9.cell? ⟨gS,5,none⟩ = some (.slice (some ⟨gL,off,none⟩) r.ln r.lc):=by (rw [(HM.out.blk.below HB9.out hS0).cell 5,show (srC p most r)[5]? = some (.slice r.LA r.ln r.lc) from rfl,HLA.out])
           have hc26 : w9.cell? ⟨gL,off + a1 * 3,none⟩ = some (.int .i64 (f.src : Int)):=(HO0.out.below HB9.out (Nat.le_refl _)).cellAt HF.out (show 0 < 3 by omega)
           clear hown9 hgr9))
      go_roundw
      case rel => exact ⟨f.src,f2,ps ++ [((f.who : Int),f.way)],A9,n + 1,c9,by go_num,rfl,HF2.out,by rw [HPa.out,HPf.out];simp,by omega,HO9.out,HB9.out⟩
      case measure => simp [intOf];omega
    · have ha0 : a1 = 0:=by omega
      subst ha0
      have HPe : Kept (e.path = ps.reverse):=kp (by
        rw [HPa.out]
        rcases HSrc.out 0 f HF.out with ⟨_,_,h,_⟩ | ⟨h,_⟩
        · rw [h];rfl
        · omega)
      go_wp2_with (go_at_call 45;fail)
      refine (YI w.heap.size n cap A ps wr HO.out (by omega)).mono ?_
      rintro e9 w9 ⟨rfl,ho9,hg9⟩
      have HO9:=kp ho9;have HB9:=kp (HB.out.grown hg9 hsz (fun k hk => (HO.out.block k hk).1))
      clear ho9 hg9
      go_wp2
      go_ret
      exact ⟨_,_,_,rfl,by rw [HPe.out];exact HO9.out,by omega,HB9.out⟩
def StartPost2 (w : World) (c : Nat) : Ending → World → Prop:=fun e w' => ∃ q,e = .returned (.tuple #[pcA q,.int .i64 (c : Int)]) ∧ Mine w' w.heap.size q ∧ (c = 0 → q.cf = M.start) ∧ (c ≠ 0 → q.len = 0) ∧ q.ow.length = 16 ∧ Below w.heap.size w w'
set_option maxRecDepth 100000 in
set_option maxHeartbeats 1600000 in
theorem xM (B : Nat) (p : Pg) (w : World) (hp : p.Ok w B) (hB : B ≤ w.heap.size) (a b : Int) (c : Nat) (hc : Q.check p = (a,b,c)) :
    Calls Try.prog 15 #[pgA p] w (StartPost2 w c):=by
  unfold StartPost2
  have HP:=kp hp;have HC:=kp hc
  clear hp hc
  rw [jI]
  by_cases hz : c = 0
  · have HZ : Kept ((c : Int) = 0):=kp (by omega)
    have hb0 : ((c : Int) != 0) = false:=by rw [HZ.out];rfl
    have HCz:=kp hz
    clear hz
    go_enter Try.func15,Try.ntmps15
    go_wp2_with (first
      | ((with_reducible refine j2 rfl 24 (.tmp 0) rfl (pgC p) rfl ?_);intro g1 w1 hg1 hk1 hw1;have HK1:=kp hk1;have HW1:=kp hw1;have hs1:=hw1.size;have hl1:=hk1.lt;clear hk1 hw1)
      | ((with_reducible show Sl 2);go_must (refine j3 rfl 46 rfl _ jZ ?_);intro g2 w2 hg2 hk2 hw2;have HK2:=kp hk2;have HK12:=kp (HK1.out.below hw2 hl1);have HW2:=kp (HW1.out.trans (hw2.mono hs1));have hs2:=HW2.out.size;have hl2:=hk2.lt;clear hk2 hw2)
      | ((with_reducible show Sl 8);go_must (refine j1 rfl 24 (.tmp 1) rfl g1 rfl _ (pgC p) _ HK12.out Try.underlying24 rfl jD ?_))
      | (go_at_call 33;go_must (refine (zF B p w2 (HP.out.below (HW2.out.mono hB)) (by omega) a b c HC.out).mono ?_);rintro e w3 ⟨rfl,hb3⟩;have HW3:=kp (HW2.out.trans (hb3.mono hs2));have HK23:=kp (HK2.out.below hb3 hl2);have hs3:=HW3.out.size;have hl23:=HK23.out.lt;clear hb3)
      | (go_at_call 34;go_must (refine (uG 0 w3).mono ?_);rintro e w4 ⟨g4,rfl,hown4,hg4,hb4⟩;have HOw4:=kp hown4;have HW4:=kp (HW3.out.trans (hb4.mono hs3));have HK24:=kp (HK23.out.below hb4 hl23);have hs4:=HW4.out.size;have hs34:=hb4.size;have hl24:=HK24.out.lt;have hl44:=(hown4.block g4 rfl).2;have HNe : Kept (g4 ≠ g2 ∧ w.heap.size ≤ g2 ∧ g2 < w4.heap.size ∧ w.heap.size ≤ w3.heap.size):=kp (by omega);clear hown4 hb4)
      | ((with_reducible show Sl 18);go_must (refine j8 rfl 43 94 (.tmp 17) rfl 9 Try.underlying43 zY (by omega) (by omega) _ (Value.slice (some ⟨g4,0,none⟩) 1 1 :: zeros 8) rfl rfl rfl ?_);intro g5 w5 hg5 hk5 hb5;have HK5:=kp hk5;have HW5:=kp (HW4.out.trans (hb5.mono hs4));have HK25:=kp (HK24.out.below hb5 hl24);have HOw5:=kp (HOw4.out.below hb5 (Nat.le_refl _));have hs5:=HW5.out.size;have HNe5 : Kept (g5 ≠ g2 ∧ w.heap.size ≤ g5 ∧ g5 ≠ g4):=kp (by have:=HNe.out.2.2;omega);clear hk5 hb5)
      | ((with_reducible show Sl 19);go_must (refine xI rfl 46 0 (.tmp 18) rfl (.slice (some ⟨g5,0,none⟩) 1 1) rfl (Value.slice (some ⟨g5,0,none⟩) 1 1 :: zeros 16) (built_conf (some ⟨g5,0,none⟩) 1 1) ?_))
      | ((with_reducible show Sn);go_must (refine j4 rfl 46 (.tmp 2) (.tmp 19) rfl g2 (Value.slice (some ⟨g5,0,none⟩) 1 1 :: zeros 16) rfl rfl _ _ HK25.out jA rfl (LH _ _ _) ?_);intro w6 hk6 hg6 hs6
         have HK6:=kp hk6;have HK56:=kp (HK5.out.grown hg6 (fun e => by cases e;exact HNe5.out.1 rfl));have HOw6:=kp (HOw5.out.far hg6 (.inr (fun e => by cases e;exact HNe.out.1 rfl)));have HW6:=kp (HW5.out.grown hg6 HW5.out.size (fun k e => by cases e;exact HNe.out.2.1));clear hk6 hg6 hs6))
    have HRow : Kept (OwnR 9 tvV w6 w.heap.size 94 (.slice (some ⟨g5,0,none⟩) 1 1) [newT 0 g4]):=kp (OwnR.of_blk HK56.out HNe5.out.2.1 rfl (Nat.le_refl _) (by unfold maxLen;omega) rfl rfl)
    have HOk : Kept (Mine w6 w.heap.size ⟨some ⟨g5,0,none⟩,1,1,[newT 0 g4],List.replicate 16 0⟩):=kp ⟨HRow.out,(Fam.nil _ _ _ _).add (HOw6.out.less HNe.out.2.2.2) (fun b hb h => by
      have e1 : g4 = b:=by have h2 : some g4 = some b:=hb;injection h2
      have e2 : g5 = b:=by have h2 : some g5 = some b:=h;injection h2
      exact HNe5.out.2.2 (e2.trans e1.symm)) (fun _ _ _ h => by simp at h)⟩
    have HKf : Kept (Blk w6 g2 46 (pcC ⟨some ⟨g5,0,none⟩,1,1,[newT 0 g4],List.replicate 16 0⟩)):=kp (by unfold pcC;rw [← X2];exact HK6.out)
    go_wp2_with ((with_reducible show bodyPost _ _ _ _ _ _);exact bodyPost_ret (qH (P:=Try.prog) (fn:=Try.f15) rfl _ _ g2 46 _ _ _ rfl rfl HKf.out Try.underlying46 rfl jA) rfl ⟨⟨some ⟨g5,0,none⟩,1,1,[newT 0 g4],List.replicate 16 0⟩,by rw [HZ.out];rfl,HOk.out,fun _ => rfl,fun h => absurd HCz.out h,rfl,HW6.out⟩)
  · have hb0 : ((c : Int) != 0) = true:=by simpa using hz
    have HZ:=kp hz
    clear hz
    go_enter Try.func15,Try.ntmps15
    go_wp2_with (first
      | ((with_reducible refine j2 rfl 24 (.tmp 0) rfl (pgC p) rfl ?_);intro g1 w1 hg1 hk1 hw1;have HK1:=kp hk1;have HW1:=kp hw1;have hs1:=hw1.size;have hl1:=hk1.lt;clear hk1 hw1)
      | ((with_reducible show Sl 2);go_must (refine j3 rfl 46 rfl _ jZ ?_);intro g2 w2 hg2 hk2 hw2;have HK2:=kp hk2;have HK12:=kp (HK1.out.below hw2 hl1);have HW2:=kp (HW1.out.trans (hw2.mono hs1));have hs2:=HW2.out.size;have hl2:=hk2.lt;clear hk2 hw2)
      | ((with_reducible show Sl 8);go_must (refine j1 rfl 24 (.tmp 1) rfl g1 rfl _ (pgC p) _ HK12.out Try.underlying24 rfl jD ?_))
      | (go_at_call 33;go_must (refine (zF B p w2 (HP.out.below (HW2.out.mono hB)) (by omega) a b c HC.out).mono ?_);rintro e w3 ⟨rfl,hb3⟩;have HW3:=kp (HW2.out.trans (hb3.mono hs2));have HK23:=kp (HK2.out.below hb3 hl2);have hs3:=HW3.out.size;have hl23:=HK23.out.lt;clear hb3)
      | ((with_reducible show Sl 15);go_must (refine lL rfl 46 #[] rfl [] (by simp) (Value.slice none 0 0 :: zeros 16) Y7 ?_))
      | ((with_reducible show Sn);go_must (refine j4 rfl 46 (.tmp 2) (.tmp 15) rfl g2 (Value.slice none 0 0 :: zeros 16) rfl rfl _ _ HK23.out jA rfl (LH _ _ _) ?_);intro w6 hk6 hg6 hs6
         have HK6:=kp hk6;have HW6:=kp (HW3.out.grown hg6 hs3 (fun k e => by cases e;omega));clear hk6 hg6 hs6))
    have HKf : Kept (Blk w6 g2 46 (pcC pcNone)):=kp (by rw [QP];exact HK6.out)
    have HOk : Kept (Mine w6 w.heap.size pcNone):=kp ⟨OwnR.nil _ _ _ _ _,Fam.nil _ _ _ _⟩
    go_wp2_with ((with_reducible show bodyPost _ _ _ _ _ _);exact bodyPost_ret (qH (P:=Try.prog) (fn:=Try.f15) rfl _ _ g2 46 _ _ _ rfl rfl HKf.out Try.underlying46 rfl jA) rfl ⟨pcNone,rfl,HOk.out,fun h => absurd h HZ.out,fun _ => rfl,rfl,HW6.out⟩)
structure Tc where
  who : Nat
  glob : Int
  wr : Bool
instance : Inhabited Tc:=⟨⟨0,0,false⟩⟩
def tcV (x : Tc) : Nat → Value
  | 0 => .int .i64 (x.who : Int)
  | 1 => .int .i64 x.glob
  | _ => .bool x.wr
theorem tcV_one (x : Tc) (j : Nat) : (tcV x j).oneCell' = true:=by unfold tcV;split <;> rfl
structure TcAt (w : World) (a : Addr) (x : Tc) : Prop where
  who : w.cell? a = some (.int .i64 (x.who : Int))
  glob : w.cell? ⟨a.block,a.off + 1,none⟩ = some (.int .i64 x.glob)
  wr : w.cell? ⟨a.block,a.off + 2,none⟩ = some (.bool x.wr)
theorem TcAt.below {w w' : World} {B : Nat} {a : Addr} {x : Tc} (h : TcAt w a x) (hb : Below B w w') (ha : a.block < B) : TcAt w' a x:=⟨(hb.cell ha).trans h.who,(hb.cell (p:=⟨a.block,a.off + 1,none⟩) ha).trans h.glob,(hb.cell (p:=⟨a.block,a.off + 2,none⟩) ha).trans h.wr⟩
theorem tc_at {w : World} {B n : Nat} {A : Option Addr} {l : List Tc} (h : Recs 3 tcV w B A n l) {k : Nat} (hk : k < n) : ∃ ad x,A = some ad ∧ ad.block < B ∧ l[k]? = some x ∧ TcAt w (ad.add (k * 3)) x:=by
  obtain ⟨ad,x,e,hb,hx,h0,hc⟩:=h.field hk
  exact ⟨ad,x,e,hb,hx,h0 (by omega),hc 1 (by omega) (by omega),hc 2 (by omega) (by omega)⟩
def races (x y : Tc) : Bool:=decide (x.who ≠ y.who ∧ x.glob = y.glob ∧ (x.wr = true ∨ y.wr = true))
def tcOf (p : Pg) (c : M.Cf) (k : Nat) : Tc:=⟨k,(M.acc p c (k : Int)).1,decide ((M.acc p c (k : Int)).2 = 2)⟩
def touchesTo (p : Pg) (c : M.Cf) : Nat → List Tc
  | 0 => []
  | k + 1 => if 0 < (M.acc p c (k : Int)).2 then touchesTo p c k ++ [tcOf p c k] else touchesTo p c k
theorem X4 {p : Pg} {c : M.Cf} {k : Nat} (h : 0 < (M.acc p c (k : Int)).2) : touchesTo p c (k + 1) = touchesTo p c k ++ [tcOf p c k]:=if_pos h
theorem YE {p : Pg} {c : M.Cf} {k : Nat} (h : ¬ 0 < (M.acc p c (k : Int)).2) : touchesTo p c (k + 1) = touchesTo p c k:=if_neg h
theorem yY (p : Pg) (c : M.Cf) : ∀ n,(touchesTo p c n).length ≤ n
  | 0 => by simp [touchesTo]
  | n + 1 => by
    have ih:=yY p c n
    unfold touchesTo
    split
    · rw [List.length_append,List.length_singleton];omega
    · omega
theorem zO (p : Pg) (c : M.Cf) (x : Tc) : ∀ n,x ∈ touchesTo p c n ↔ ∃ k,k < n ∧ 0 < (M.acc p c (k : Int)).2 ∧ x = tcOf p c k
  | 0 => by simp [touchesTo]
  | n + 1 => by
    have ih:=zO p c x n
    unfold touchesTo
    split
    · rename_i h
      rw [List.mem_append,ih,List.mem_singleton]
      constructor
      · rintro (⟨k,h1,h2,h3⟩ | h1)
        · exact ⟨k,by omega,h2,h3⟩
        · exact ⟨n,by omega,h,h1⟩
      · rintro ⟨k,h1,h2,h3⟩
        by_cases e : k = n
        · subst e;exact .inr h3
        · exact .inl ⟨k,by omega,h2,h3⟩
    · rename_i h
      rw [ih]
      constructor
      · rintro ⟨k,h1,h2,h3⟩;exact ⟨k,by omega,h2,h3⟩
      · rintro ⟨k,h1,h2,h3⟩
        by_cases e : k = n
        · subst e;exact absurd h2 h
        · exact ⟨k,by omega,h2,h3⟩
theorem JG (p : Pg) (c : M.Cf) : ∀ n,(touchesTo p c n).Pairwise (fun x y => x.who < y.who)
  | 0 => by simp [touchesTo]
  | n + 1 => by
    have ih:=JG p c n
    unfold touchesTo
    split
    · rw [List.pairwise_append]
      refine ⟨ih,by simp,fun x hx y hy => ?_⟩
      obtain ⟨k,hk,_,rfl⟩:=(zO p c x n).1 hx
      rw [List.mem_singleton] at hy
      subst hy
      exact hk
    · exact ih
theorem yE {p : Pg} {c : M.Cf} {n i j : Nat} {x y : Tc} (hx : (touchesTo p c n)[i]? = some x) (hy : (touchesTo p c n)[j]? = some y) (h : i < j) : x.who < y.who:=by
  obtain ⟨hi,rfl⟩:=List.getElem?_eq_some_iff.1 hx
  obtain ⟨hj,rfl⟩:=List.getElem?_eq_some_iff.1 hy
  exact List.pairwise_iff_getElem.1 (JG p c n) i j hi hj h
theorem X5 {p : Pg} {c : M.Cf} {n i : Nat} {x : Tc} (hx : (touchesTo p c n)[i]? = some x) : x.who < n ∧ 0 < (M.acc p c (x.who : Int)).2 ∧ x = tcOf p c x.who:=by
  obtain ⟨k,h1,h2,rfl⟩:=(zO p c x n).1 (List.mem_of_getElem? hx)
  exact ⟨h1,h2,rfl⟩
theorem LQ {p : Pg} {c : M.Cf} {n k : Nat} (hk : k < n) (h : 0 < (M.acc p c (k : Int)).2) : ∃ i : Nat,(touchesTo p c n)[i]? = some (tcOf p c k):=List.getElem?_of_mem ((zO p c _ n).2 ⟨k,hk,h,rfl⟩)
theorem JQ {p : Pg} {c : M.Cf} {a b : Nat} (ha : 0 < (M.acc p c (a : Int)).2) (hb : 0 < (M.acc p c (b : Int)).2) (g : Int) : M.pair p c (a : Int) (b : Int) g = (decide ((M.acc p c (a : Int)).1 = g) && races (tcOf p c a) (tcOf p c b)):=by
  have h1:=M.acc_two p c (a : Int)
  have h2:=M.acc_two p c (b : Int)
  rw [Bool.eq_iff_iff,M.pair_is,Bool.and_eq_true,decide_eq_true_eq]
  unfold races tcOf
  simp only [decide_eq_true_eq]
  constructor
  · rintro ⟨e1,_,_,e4,e5,e6⟩
    exact ⟨e5,by omega,e4,by omega⟩
  · rintro ⟨e5,e1,e4,e6⟩
    exact ⟨by omega,ha,hb,e4,e5,by omega⟩
theorem LY {p : Pg} {c : M.Cf} {n a b : Nat} (_hn : c.ths.length = n) (hab : a < b) (hbn : b < n) (h : ∀ (i j : Nat) x y,i < j → (touchesTo p c n)[i]? = some x → (touchesTo p c n)[j]? = some y → x.who = a → y.who = b → races x y = false) : M.NoPair p c a b:=by
  unfold M.NoPair
  cases hp : M.pair p c (a : Int) (b : Int) (M.acc p c (a : Int)).1 with
  | false => rfl
  | true =>
    obtain ⟨_,ha,hb,_⟩:=M.pair_is.1 hp
    rw [JQ ha hb,decide_eq_true rfl,Bool.true_and] at hp
    obtain ⟨i,hi⟩:=LQ (n:=n) (by omega) ha
    obtain ⟨j,hj⟩:=LQ hbn hb
    have hij : i < j:=by
      rcases Nat.lt_trichotomy i j with h1 | h1 | h1
      · exact h1
      · subst h1
        have e:=congrArg Tc.who (Option.some.inj (hi.symm.trans hj))
        have e2 : a = b:=e
        omega
      · have e2 : b < a:=yE hj hi h1
        omega
    rw [h i j _ _ hij hi hj rfl rfl] at hp
    exact absurd hp (by decide)
theorem first_some {p : Pg} {c : M.Cf} {n i j : Nat} {x y : Tc} (hn : c.ths.length = n) (hij : i < j) (hi : (touchesTo p c n)[i]? = some x) (hj : (touchesTo p c n)[j]? = some y) (hr : races x y = true)
    (hm : ∀ (i' j' : Nat) x' y',i' < j' → (touchesTo p c n)[i']? = some x' → (touchesTo p c n)[j']? = some y' → (i' < i ∨ i' = i ∧ j' < j) → races x' y' = false) : M.FirstIs p c (x.who : Int) (y.who : Int) x.glob 1:=by
  obtain ⟨hx1,hx2,hx3⟩:=X5 hi
  obtain ⟨hy1,hy2,hy3⟩:=X5 hj
  refine .inl ⟨rfl,x.who,y.who,rfl,rfl,by rw [hx3];rfl,yE hi hj hij,by omega,fun h => ?_,fun a b hab hbn hl => LY hn hab (by omega) fun i' j' x' y' hij' hi' hj' ea eb => ?_⟩
  · unfold M.NoPair at h
    rw [JQ hx2 hy2,decide_eq_true rfl,Bool.true_and,← hx3,← hy3,hr] at h
    exact absurd h (by decide)
  · refine hm i' j' x' y' hij' hi' hj' ?_
    rcases hl with hl | ⟨hl1,hl2⟩
    · refine .inl ?_
      rcases Nat.lt_trichotomy i' i with h1 | h1 | h1
      · exact h1
      · subst h1
        have e:=congrArg Tc.who (Option.some.inj (hi.symm.trans hi'))
        omega
      · have:=yE hi hi' h1;omega
    · refine .inr ⟨?_,?_⟩
      · rcases Nat.lt_trichotomy i' i with h1 | h1 | h1
        · have:=yE hi' hi h1;omega
        · exact h1
        · have:=yE hi hi' h1;omega
      · rcases Nat.lt_trichotomy j' j with h1 | h1 | h1
        · exact h1
        · subst h1
          have e:=congrArg Tc.who (Option.some.inj (hj.symm.trans hj'))
          omega
        · have:=yE hj hj' h1;omega
theorem first_none {p : Pg} {c : M.Cf} {n : Nat} (hn : c.ths.length = n) (hm : ∀ (i' j' : Nat) x' y',i' < j' → (touchesTo p c n)[i']? = some x' → (touchesTo p c n)[j']? = some y' → races x' y' = false) : M.FirstIs p c 0 0 0 0 :=
  .inr ⟨rfl,rfl,rfl,rfl,fun _ _ hab hbn => LY hn hab (by omega) fun i' j' x' y' hij hi hj _ _ => hm i' j' x' y' hij hi hj⟩
theorem acc_out {p : Pg} {c : M.Cf} {t : Int} (h : M.lives c t = false) : M.acc p c t = (0,0):=by
  unfold M.acc
  rw [if_neg (by rw [h];intro h2;cases h2.1)]
def RivalIs (A : Option Addr) (l : List Tc) (t : Tc) (v : Value) : Prop :=
  (∃ ad i x,A = some ad ∧ l[i]? = some x ∧ races t x = true ∧ (∀ j y,j < i → l[j]? = some y → races t y = false) ∧ v = .pointer (some (ad.add (i * 3)))) ∨ (v = .pointer none ∧ ∀ y ∈ l,races t y = false)
set_option maxRecDepth 100000 in
set_option maxHeartbeats 1600000 in
theorem JS (a b : Addr) (x y : Tc) (w : World) (hx : TcAt w a x) (hy : TcAt w b y) (r : Bool) (hr : races x y = r) :
    Calls Try.prog 73 #[.pointer (some a),.pointer (some b)] w fun e w' => e = .returned (.bool r) ∧ Below w.heap.size w w':=by
  obtain ⟨s,g,u⟩:=x
  obtain ⟨t,h,v⟩:=y
  have hx0 : w.cell? a = some (.int .i64 (s : Int)):=hx.who
  have hx1 : w.cell? ⟨a.block,a.off + 1,none⟩ = some (.int .i64 g):=hx.glob
  have hx2 : w.cell? ⟨a.block,a.off + 2,none⟩ = some (.bool u):=hx.wr
  have hy0 : w.cell? b = some (.int .i64 (t : Int)):=hy.who
  have hy1 : w.cell? ⟨b.block,b.off + 1,none⟩ = some (.int .i64 h):=hy.glob
  have hy2 : w.cell? ⟨b.block,b.off + 2,none⟩ = some (.bool v):=hy.wr
  have hr2 : decide (s ≠ t ∧ g = h ∧ (u = true ∨ v = true)) = r:=hr
  clear hx hy hr
  by_cases e1 : s = t
  · have b1 : ((s : Int) != (t : Int)) = false:=by rw [bne_eq_false_iff_eq];omega
    have HR : Kept (false = r):=kp (by rw [← hr2,decide_eq_false];intro h;exact h.1 e1)
    clear hr2 e1
    go_enter Try.func73,Try.ntmps73
    go_wp2
    go_quiet (fail)
    go_wp2
    go_ret
    exact ⟨jG HR.out,below_drewN (Below.refl _ _) _⟩
  · have b1 : ((s : Int) != (t : Int)) = true:=by rw [bne_iff_ne];omega
    by_cases e2 : g = h
    · have b2 : (g == h) = true:=by rw [beq_iff_eq];exact e2
      cases u with
      | true =>
        have HR : Kept (true = r):=kp (by rw [← hr2,decide_eq_true ⟨e1,e2,.inl rfl⟩])
        clear hr2 e1 e2
        go_enter Try.func73,Try.ntmps73
        go_wp2
        go_quiet (fail)
        go_wp2
        go_ret
        exact ⟨jG HR.out,below_drewN (Below.refl _ _) _⟩
      | false =>
        have HR : Kept (v = r):=kp (by rw [← hr2];cases v <;> simp [e1,e2])
        clear hr2 e1 e2
        go_enter Try.func73,Try.ntmps73
        go_wp2
        go_quiet (fail)
        go_wp2
        go_ret
        exact ⟨jG HR.out,below_drewN (Below.refl _ _) _⟩
    · have b2 : (g == h) = false:=by rw [beq_eq_false_iff_ne];exact e2
      have HR : Kept (false = r):=kp (by rw [← hr2,decide_eq_false];intro h;exact e2 h.2.1)
      clear hr2 e1 e2
      go_enter Try.func73,Try.ntmps73
      go_wp2
      go_quiet (fail)
      go_wp2
      go_ret
      exact ⟨jG HR.out,below_drewN (Below.refl _ _) _⟩
set_option maxRecDepth 100000 in
set_option maxHeartbeats 800000 in
theorem JR (B : Nat) (a : Addr) (t : Tc) (A : Option Addr) (n c : Nat) (l : List Tc) (w : World) (ht : TcAt w a t) (ha : a.block < B) (hr : Recs 3 tcV w B A n l) (hn : n ≤ 1000) (hB : B ≤ w.heap.size) :
    Calls Try.prog 44 #[.pointer (some a),.slice A n c] w fun e w' => ∃ v,e = .returned v ∧ RivalIs A l t v ∧ Below w.heap.size w w':=by
  have HR:=kp hr
  have HLn:=kp hr.len
  have HT:=kp ht
  clear hr ht
  go_enter Try.func44,Try.ntmps44
  go_wp2
  go_loopw [8] (fun v8 wr => ∃ i : Nat,i ≤ n ∧ v8 = .int .i64 i ∧ (∀ j y,j < i → l[j]? = some y → races t y = false) ∧ Below w.heap.size w wr) (fun v8 _ => n - (intOf v8).toNat)
  case atStart => exact ⟨0,by omega,rfl,(fun _ _ h => by omega),Below.refl _ _⟩
  case round =>
    obtain ⟨i,hi,rfl,hbef,hbw⟩:=hrel
    have HBef:=kp hbef;have HBw:=kp hbw
    have hsz:=hbw.size
    have HT2:=kp (HT.out.below hbw (by omega))
    have HR2:=kp (HR.out.below (hbw.mono hB))
    clear hbef hbw
    by_cases hlt : i < n
    · obtain ⟨ad,x,rfl,hab,hx,hat⟩:=tc_at HR2.out hlt
      have HAt:=kp hat
      have HX:=kp hx
      clear hat hx
      cases hrr : races t x
      · have HE:=kp hrr
        clear hrr
        go_wp2_with (first
          | (go_at_call 73;go_must (refine (JS a (ad.add (i * 3)) t x _ HT2.out HAt.out false HE.out).mono ?_);rintro e w2 ⟨rfl,hb2⟩;have HB2:=kp (HBw.out.trans (hb2.mono hsz));clear hb2))
        go_roundw
        case rel =>
          refine ⟨i + 1,by omega,by go_num,fun j y hj hy => ?_,HB2.out⟩
          by_cases e : j = i
          · subst e
            rw [HX.out] at hy
            cases hy
            exact HE.out
          · exact HBef.out j y (by omega) hy
        case measure => simp [intOf];omega
      · have HE:=kp hrr
        clear hrr
        go_wp2_with (first
          | (go_at_call 73;go_must (refine (JS a (ad.add (i * 3)) t x _ HT2.out HAt.out true HE.out).mono ?_);rintro e w2 ⟨rfl,hb2⟩;have HB2:=kp (HBw.out.trans (hb2.mono hsz));clear hb2))
        go_ret
        exact ⟨_,rfl,.inl ⟨ad,i,x,rfl,HX.out,HE.out,HBef.out,rfl⟩,HB2.out⟩
    · have hge : n ≤ i:=by omega
      clear hlt
      go_wp2
      go_ret
      refine ⟨_,rfl,.inr ⟨rfl,fun x hx => ?_⟩,HBw.out⟩
      obtain ⟨j,hj⟩:=List.getElem?_of_mem hx
      exact HBef.out j x (by have:=(List.getElem?_eq_some_iff.1 hj).1;have:=HLn.out;omega) hj
theorem YF : (Try.prog.info? 115).map (fun i => (i.zero,i.size,i.bytes)) = some (some (.agg #[.int .i64 0,.int .i64 0,.bool false]),3,24):=by kernel_rfl
theorem acc_of {p : Pg} {c : M.Cf} {k : Nat} {b : Bool} {x : Nd} (hb : M.lives c (k : Int) = b) (hx : atNd p c (k : Int) = x) : M.acc p c (k : Int) = if (b && (x.kind == 1 || x.kind == 2)) = true then (x.arg,x.kind) else (0,0):=by
  unfold M.acc
  rw [Int.toNat_natCast,hb]
  cases b with
  | false => rfl
  | true =>
    have e : M.node p c k = x:=by rw [← hx];unfold atNd;rw [hb];rfl
    rw [e,Bool.true_and]
    by_cases h1 : x.kind = 1 ∨ x.kind = 2
    · rw [if_pos ⟨rfl,h1⟩,if_pos (by simpa using h1)]
    · rw [if_neg (fun h => h1 h.2),if_neg (by simpa using h1)]
theorem acc_of_yes {p : Pg} {c : M.Cf} {k : Nat} {x : Nd} (hb : M.lives c (k : Int) = true) (hx : atNd p c (k : Int) = x) (h : (x.kind == 1 || x.kind == 2) = true) : M.acc p c (k : Int) = (x.arg,x.kind):=by
  rw [acc_of hb hx,h];rfl
theorem acc_of_no {p : Pg} {c : M.Cf} {k : Nat} {b : Bool} {x : Nd} (hb : M.lives c (k : Int) = b) (hx : atNd p c (k : Int) = x) (h : (b && (x.kind == 1 || x.kind == 2)) = false) : M.acc p c (k : Int) = (0,0):=by
  rw [acc_of hb hx,h];rfl
theorem atNd_ok {p : Pg} {c : M.Cf} (hg : M.Good p c) {w : World} {B : Nat} (hp : p.Ok w B) (k : Nat) : (atNd p c (k : Int)).Ok:=by
  unfold atNd
  by_cases h : M.lives c (k : Int) = true
  · rw [if_pos h,Int.toNat_natCast]
    rw [M.lives_nat] at h
    obtain ⟨fn,hfn,_,hx⟩:=M.node_is hg h
    obtain ⟨_,fn',_,_,hfn',hok,_⟩:=hp.fn (show (M.top (M.th c k).stack).1 < p.len by rw [← hp.row.len];exact (List.getElem?_eq_some_iff.1 hfn).1)
    rw [hfn] at hfn'
    cases hfn'
    exact hok.nodes.2 _ (List.mem_of_getElem? hx)
  · rw [if_neg h]
    exact nd_zero_ok
set_option maxRecDepth 100000 in
set_option maxHeartbeats 1600000 in
theorem QM (B : Nat) (p : Pg) (hf : Fine p) (q : Pc) (w : World) (hp : p.Ok w B) (hq : q.Ok w B) (hg : M.Good p q.cf) (hB : B ≤ w.heap.size) :
    Calls Try.prog 43 #[pgA p,pcA q] w fun e w' => ∃ v,e = .returned v ∧ OwnR 3 tcV w' w.heap.size 115 v (touchesTo p q.cf q.len) ∧ Below w.heap.size w w':=by
  have h8 : q.len ≤ 8:=by rw [← hq.len];exact hg.most
  have HQ17:=kp (jT hg.owns)
  have HP:=kp hp;have HQ:=kp hq;have HG:=kp hg;have HF:=kp hf
  have hqc:=hq.lc;have hqm:=hq.cm
  unfold maxLen at hqm
  have HE0 : Kept (pcC q = .slice q.A q.len q.cap :: q.ow.map natV):=kp rfl
  clear hp hq hg hf
  rw [qD,jI]
  go_enter Try.func43,Try.ntmps43
  go_wp2_with (first
    | ((with_reducible refine j2 rfl 24 (.tmp 0) rfl (pgC p) rfl ?_);intro g1 w1 hg1 hk1 hw1;have HK1:=kp hk1;have HW1:=kp hw1;have hs1:=hw1.size;have hl1:=hk1.lt;clear hk1 hw1)
    | ((with_reducible refine j2 rfl 46 (.tmp 1) rfl (pcC q) rfl ?_);intro g2 w2 hg2 hk2 hw2;have HK2:=kp hk2;have HK12:=kp (HK1.out.below hw2 hl1);have HW2:=kp (HW1.out.trans (hw2.mono hs1));have hs2:=HW2.out.size;have hl12:=HK12.out.lt;have hl2:=hk2.lt
       have hc0:=hk2.cell 0
       rw [HE0.out,List.getElem?_cons_zero] at hc0
       clear hk2 hw2))
  clear hc0
  go_loopw [5,15] (fun v5 v15 wr => ∃ i : Nat,i ≤ q.len ∧ v15 = .int .i64 i ∧ OwnR 3 tcV wr w2.heap.size 115 v5 (touchesTo p q.cf i) ∧ Below w2.heap.size w2 wr) (fun _ v15 _ => q.len - (intOf v15).toNat)
  case atStart => exact ⟨0,by omega,rfl,OwnR.nil _ _ _ _ _,Below.refl _ _⟩
  case round =>
    obtain ⟨i,hi,rfl,hown,hbw⟩:=hrel
    obtain ⟨A5,c5,rfl,hc5,hm5,_⟩:=hown.form
    have HOwn:=kp hown;have HBw:=kp hbw
    obtain ⟨n5,hn5⟩ : ∃ n5,(touchesTo p q.cf i).length = n5:=⟨_,rfl⟩
    rw [hn5] at HOwn hc5 ⊢
    have HN5:=kp hn5
    unfold maxLen at hm5
    have hsz:=hbw.size
    have hal:=yY p q.cf i
    rw [hn5] at hal
    have HBW:=kp (HW2.out.trans (hbw.mono hs2))
    have hsw:=HBW.out.size
    have HK1r:=kp (HK12.out.below hbw hl12);have HK2r:=kp (HK2.out.below hbw hl2)
    have HPr:=kp (HP.out.below (HBW.out.mono hB));have HQr:=kp (HQ.out.below (HBW.out.mono hB))
    have hBr : B ≤ wr.heap.size:=by omega
    clear hown hbw hn5
    by_cases hlt : i < q.len
    · have HI : Kept (I64 (i : Int)):=kp (by unfold I64;omega)
      obtain ⟨b,hb⟩ : ∃ b,M.lives q.cf (i : Int) = b:=⟨_,rfl⟩
      obtain ⟨x,hx⟩ : ∃ x,atNd p q.cf (i : Int) = x:=⟨_,rfl⟩
      have HXok : Kept x.Ok:=kp (by rw [← hx];exact atNd_ok HG.out HPr.out i)
      have HB:=kp hb;have HX:=kp hx
      obtain ⟨ac,hac⟩ : ∃ ac,(x.kind == 1 || x.kind == 2) = ac:=⟨_,rfl⟩
      have HAc:=kp hac
      clear hb hx hac
      by_cases hyes : b = true ∧ ac = true
      · obtain ⟨rfl,rfl⟩:=hyes
        have HA:=kp (acc_of_yes HB.out HX.out HAc.out)
        have hpos : 0 < (M.acc p q.cf (i : Int)).2:=by
          rw [HA.out]
          have h:=HAc.out
          rw [Bool.or_eq_true,beq_iff_eq,beq_iff_eq] at h
          show 0 < x.kind
          omega
        have HE : Kept (touchesTo p q.cf (i + 1) = touchesTo p q.cf i ++ [⟨i,x.arg,x.kind == 2⟩]):=kp (by
          rw [X4 hpos]
          unfold tcOf
          rw [HA.out]
          congr 2)
        clear hpos
        obtain ⟨wrb,hwrb⟩ : ∃ wrb,(x.kind == 2) = wrb:=⟨_,rfl⟩
        rw [hwrb] at HE
        have HWrb:=kp hwrb
        clear hwrb
        go_wp2_with (first
          | ((with_reducible show Sl 19);go_must (refine j1 rfl 46 (.tmp 3) rfl g2 rfl _ (pcC q) _ HK2r.out Try.underlying46 rfl (by rw [HQ17.out];exact jA) ?_))
          | ((with_reducible show Sl 20);go_must (refine j1 rfl 24 (.tmp 2) rfl g1 rfl _ (pgC p) _ HK1r.out Try.underlying24 rfl jD ?_))
          | (go_at_call 35;go_must (refine (yA B p HF.out q _ HPr.out HQr.out HG.out hBr (i : Int) HI.out true HB.out x HX.out).mono ?_);rintro e w5 ⟨rfl,hb5⟩
             have HB5:=kp hb5;have hs5:=hb5.size;clear hb5)
          | ((with_reducible show Sl 7);go_must (refine j3 rfl 55 rfl (ndC ⟨0,0,0,0⟩) jQ ?_);intro g7 w7 hg7 hk7 hw7;have HK7:=kp hk7;have HG7:=kp hg7;have HB7:=kp (HB5.out.trans (hw7.mono hs5));have hs7:=HB7.out.size;clear hk7 hw7 hg7)
          | ((with_reducible show Sn);go_must (refine j4 rfl 55 (.tmp 7) (.tmp 23) rfl g7 (ndC x) rfl rfl _ _ HK7.out jH rfl (jR x) ?_);intro w8 hk8 hg8 hs8';have HK8:=kp hk8;have HB8:=kp (HB7.out.grown hg8 hs7 (fun k e => by cases e;have:=HG7.out;omega));have hs8:=HB8.out.size;clear hk8 hg8 hs8')
          | ((with_reducible show Sl 26);go_must (refine j1 rfl 55 (.tmp 7) rfl g7 rfl _ (ndC x) _ HK8.out Try.underlying55 rfl jH ?_))
          | (go_at_call 72;go_must (refine (zG x HXok.out _).mono ?_);rintro e w9 ⟨rfl,hb9⟩;rw [HAc.out,HWrb.out]
             have HB9:=kp (HB8.out.trans (hb9.mono hs8));have hs9:=HB9.out.size;have HO9:=kp (HOwn.out.below HB9.out (Nat.le_refl _));clear hb9)
          | (at_builtin;go_must (refine vN rfl (.tmp 35) (.tmp 40) 111 rfl w2.heap.size 115 3 _ 24 Try.underlying111 YF rfl (by omega) tcV tcV_one _ (.slice A5 n5 c5) (touchesTo p q.cf i) ⟨i,x.arg,wrb⟩ rfl HO9.out _ 1 rfl rfl _ rfl (by rw [HN5.out];unfold maxLen;omega) (by rw [HN5.out];omega) (by omega) ?_);intro v10 w10 hown10 hgr10
             have HO10:=kp hown10;have HB10:=kp ((HBw.out.trans (HB9.out.mono hsz)).grown hgr10.1 (HBw.out.trans (HB9.out.mono hsz)).size (fun k hk => (HO9.out.block k hk).1));clear hown10 hgr10))
        go_roundw
        case rel => exact ⟨i + 1,by omega,by go_num,by rw [HE.out];exact HO10.out,HB10.out⟩
        case measure => simp [intOf];omega
      · have hno : (b && ac) = false:=by cases b <;> cases ac <;> simp_all
        have HA:=kp (acc_of_no HB.out HX.out (by rw [HAc.out];exact hno))
        have HE : Kept (touchesTo p q.cf (i + 1) = touchesTo p q.cf i):=kp (YE (by rw [HA.out];exact Int.lt_irrefl 0))
        clear hyes
        obtain ⟨wrb,hwrb⟩ : ∃ wrb,(x.kind == 2) = wrb:=⟨_,rfl⟩
        have HWrb:=kp hwrb
        clear hwrb
        cases b
        · clear hno
          go_wp2_with (first
            | ((with_reducible show Sl 19);go_must (refine j1 rfl 46 (.tmp 3) rfl g2 rfl _ (pcC q) _ HK2r.out Try.underlying46 rfl (by rw [HQ17.out];exact jA) ?_))
            | ((with_reducible show Sl 20);go_must (refine j1 rfl 24 (.tmp 2) rfl g1 rfl _ (pgC p) _ HK1r.out Try.underlying24 rfl jD ?_))
            | (go_at_call 35;go_must (refine (yA B p HF.out q _ HPr.out HQr.out HG.out hBr (i : Int) HI.out false HB.out x HX.out).mono ?_);rintro e w5 ⟨rfl,hb5⟩
               have HB5:=kp hb5;have hs5:=hb5.size;clear hb5)
            | ((with_reducible show Sl 7);go_must (refine j3 rfl 55 rfl (ndC ⟨0,0,0,0⟩) jQ ?_);intro g7 w7 hg7 hk7 hw7;have HK7:=kp hk7;have HG7:=kp hg7;have HB7:=kp (HB5.out.trans (hw7.mono hs5));have hs7:=HB7.out.size;clear hk7 hw7 hg7)
            | ((with_reducible show Sn);go_must (refine j4 rfl 55 (.tmp 7) (.tmp 23) rfl g7 (ndC x) rfl rfl _ _ HK7.out jH rfl (jR x) ?_);intro w8 hk8 hg8 hs8';have HK8:=kp hk8;have HB8:=kp (HB7.out.grown hg8 hs7 (fun k e => by cases e;have:=HG7.out;omega));have hs8:=HB8.out.size;clear hk8 hg8 hs8')
            | ((with_reducible show Sl 26);go_must (refine j1 rfl 55 (.tmp 7) rfl g7 rfl _ (ndC x) _ HK8.out Try.underlying55 rfl jH ?_))
            | (go_at_call 72;go_must (refine (zG x HXok.out _).mono ?_);rintro e w9 ⟨rfl,hb9⟩;rw [HAc.out,HWrb.out]
               have HB9:=kp (HB8.out.trans (hb9.mono hs8));have hs9:=HB9.out.size;have HO9:=kp (HOwn.out.below HB9.out (Nat.le_refl _));clear hb9))
          go_roundw
          case rel => exact ⟨i + 1,by omega,by go_num,by rw [HE.out];exact HO9.out,HBw.out.trans (HB9.out.mono hsz)⟩
          case measure => simp [intOf];omega
        · have hacf : ac = false:=by simpa using hno
          subst hacf
          clear hno
          go_wp2_with (first
            | ((with_reducible show Sl 19);go_must (refine j1 rfl 46 (.tmp 3) rfl g2 rfl _ (pcC q) _ HK2r.out Try.underlying46 rfl (by rw [HQ17.out];exact jA) ?_))
            | ((with_reducible show Sl 20);go_must (refine j1 rfl 24 (.tmp 2) rfl g1 rfl _ (pgC p) _ HK1r.out Try.underlying24 rfl jD ?_))
            | (go_at_call 35;go_must (refine (yA B p HF.out q _ HPr.out HQr.out HG.out hBr (i : Int) HI.out true HB.out x HX.out).mono ?_);rintro e w5 ⟨rfl,hb5⟩
               have HB5:=kp hb5;have hs5:=hb5.size;clear hb5)
            | ((with_reducible show Sl 7);go_must (refine j3 rfl 55 rfl (ndC ⟨0,0,0,0⟩) jQ ?_);intro g7 w7 hg7 hk7 hw7;have HK7:=kp hk7;have HG7:=kp hg7;have HB7:=kp (HB5.out.trans (hw7.mono hs5));have hs7:=HB7.out.size;clear hk7 hw7 hg7)
            | ((with_reducible show Sn);go_must (refine j4 rfl 55 (.tmp 7) (.tmp 23) rfl g7 (ndC x) rfl rfl _ _ HK7.out jH rfl (jR x) ?_);intro w8 hk8 hg8 hs8';have HK8:=kp hk8;have HB8:=kp (HB7.out.grown hg8 hs7 (fun k e => by cases e;have:=HG7.out;omega));have hs8:=HB8.out.size;clear hk8 hg8 hs8')
            | ((with_reducible show Sl 26);go_must (refine j1 rfl 55 (.tmp 7) rfl g7 rfl _ (ndC x) _ HK8.out Try.underlying55 rfl jH ?_))
            | (go_at_call 72;go_must (refine (zG x HXok.out _).mono ?_);rintro e w9 ⟨rfl,hb9⟩;rw [HAc.out,HWrb.out]
               have HB9:=kp (HB8.out.trans (hb9.mono hs8));have hs9:=HB9.out.size;have HO9:=kp (HOwn.out.below HB9.out (Nat.le_refl _));clear hb9))
          go_roundw
          case rel => exact ⟨i + 1,by omega,by go_num,by rw [HE.out];exact HO9.out,HBw.out.trans (HB9.out.mono hsz)⟩
          case measure => simp [intOf];omega
    · have he : i = q.len:=by omega
      have HO : Kept (OwnR 3 tcV wr w2.heap.size 115 (.slice A5 n5 c5) (touchesTo p q.cf q.len)):=kp (by rw [← he];exact HOwn.out)
      have hge : q.len ≤ i:=by omega
      clear hlt he
      go_wp2
      go_ret
      exact ⟨_,rfl,HO.out.less hs2,HBW.out⟩
theorem QC {w w' : World} {v : Value} {l : List Tc} {e : TypeId} (h : OwnR 3 tcV w' w.heap.size e v l) {n : Nat} (hn : l.length = n) : ∃ A c,v = .slice A n c ∧ n ≤ c ∧ c ≤ maxLen ∧ Recs 3 tcV w' w'.heap.size A n l:=by
  subst hn
  exact h.form
end Go.Proofs.Ytnaomfmmkhgbhaa
