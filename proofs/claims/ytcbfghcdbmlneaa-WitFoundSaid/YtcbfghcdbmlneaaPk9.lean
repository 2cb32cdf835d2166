/- ScriptP2, Acts, Early, WitP3. -/
import Derived.Test.YtcbfghcdbmlneaaPk4
import Derived.Test.YtcbfghcdbmlneaaPk5
import Derived.Test.YtcbfghcdbmlneaaPk8
import Derived.Test.YtcbfghcdbmlneaaPk3
import Derived.Test.YtcbfghcdbmlneaaPk1
namespace Go.Proofs.Ytcbfghcdbmlneaa
open Go.RowKit
theorem J8 {P : Program} {ops : Array Oper} {rest : List Oper} {o : Oper} {a : Act} {w : World} {Q : Exit → Act → World → Prop} (hgd : o.guard = none) (ty : TypeId) (x y : Operand) (ho : o.op = .store ty x y)
    (g k : Nat) (u v : Value) (hx : a.eval x = .pointer (some ⟨g,k,none⟩)) (hy : a.eval y = .agg #[u,v]) (hu : u.oneCell' = true) (hv : v.oneCell' = true)
    (t : TypeId) (cs : List Value) (hg : Blk w g t cs) (hk : k + 1 < cs.length) (hi : (P.info? ty).map (·.size) = some 2)
    (h : ∀ w',Blk w' g t ((cs.set k u).set (k + 1) v) → w.grownBy w' (some g) → w'.heap.size = w.heap.size → wpList P ops Q rest (a.put o.dst undef) w') : wpList P ops Q (o :: rest) a w:=by
  have e : w.setCells g k [u,v] = (w.setCell ⟨g,k,none⟩ u).setCell ⟨g,k + 1,none⟩ v:=rfl
  refine wpList_store_mid hgd ty x y ho g k #[u,v] hx hy (fun j hj => ?_) hi (by simp [hu,hv]) ?_
  · have hj2 : j < 2:=hj
    refine ⟨?_,hg.frozen _⟩
    rw [hg.cell,List.getElem?_eq_getElem (by omega)];rfl
  · show wpList P ops Q rest (a.put o.dst undef) (w.setCells g k [u,v])
    rw [e]
    exact h _ ((hg.set k u).set (k + 1) v) (jN (jN (jK _ _))) (by simp)
theorem JS : (Try.prog.info? 35).map (·.zero) = some (some (.agg [Value.int .i64 0,Value.int .i64 0].toArray)):=by kernel_rfl
theorem xB : (Try.prog.info? 35).map (·.size) = some 2:=by kernel_rfl
theorem zM (x y : Int) : ∀ u ∈ [Value.int .i64 x,.int .i64 y],u.oneCell' = true:=by
  intro u hu
  simp only [List.mem_cons,List.not_mem_nil,or_false] at hu
  rcases hu with h | h <;> subst h <;> rfl
theorem JF : (Try.prog.info? 56).map (·.size) = some 2:=by kernel_rfl
theorem X8 : (Try.prog.info? 56).map (fun i => (i.zero,i.size,i.bytes)) = some (some (.agg #[.int .i64 0,.bool false]),2,16):=by kernel_rfl
theorem made_picks (n : Nat) : madeCells #[.int .i64 0,.bool false] (n * 2) = (cellsR 2 pkV (List.replicate n ((0 : Int),false))).toArray:=by
  have hl : (cellsR 2 pkV (List.replicate n ((0 : Int),false))).length = n * 2:=by rw [qJ,List.length_replicate]
  apply Array.ext
  · simp [madeCells,hl]
  · intro k h1 h2
    have hk : k < n * 2:=by simpa [madeCells] using h1
    have h3:=lZ 2 pkV (List.replicate n ((0 : Int),false)) (k / 2) (k % 2) (0,false) (by rw [List.getElem?_replicate,if_pos (by omega)]) (by omega)
    rw [show k / 2 * 2 + k % 2 = k by omega] at h3
    have h4 : (cellsR 2 pkV (List.replicate n ((0 : Int),false)))[k]'(by omega) = pkV (0,false) (k % 2):=by
      have h5:=List.getElem?_eq_getElem (l:=cellsR 2 pkV (List.replicate n ((0 : Int),false))) (i:=k) (by omega)
      rw [h5] at h3
      exact Option.some.inj h3
    refine Eq.trans ?_ h4.symm
    have h01 : k % 2 = 0 ∨ k % 2 = 1:=by omega
    rcases h01 with h | h
    · simp [madeCells,h,pkV]
    · simp [madeCells,h,pkV]
theorem J9 {ops : Array Oper} {rest : List Oper} {o : Oper} {a : Act} {w : World} {Q : Exit → Act → World → Prop} (hgd : o.guard = none) (l c : Operand) (ho : o.op = .makeSlice 22 l c)
    (n : Nat) (hl : a.eval l = .int .i64 (n : Int)) (hc : a.eval c = .int .i64 (n : Int)) (hn : n ≤ 1000000)
    (h : ∀ g w',w.heap.size ≤ g → Blk w' g 56 (cellsR 2 pkV (List.replicate n ((0 : Int),false))) → Below w.heap.size w w' → wpList Try.prog ops Q rest (a.put o.dst (.slice (some ⟨g,0,none⟩) n n)) w') : wpList Try.prog ops Q (o :: rest) a w:=by
  refine wpList_plain hgd fun K hK => ?_
  obtain ⟨i,hi0,hzz⟩:=Option.map_eq_some_iff.1 X8
  simp only [Prod.mk.injEq] at hzz
  obtain ⟨hz,hs,hbb⟩:=hzz
  have hb' : (i.bytes : Int) * (n : Int) ≤ 281474976710656:=by
    have h : ((i.bytes * n : Nat) : Int) ≤ 281474976710656:=by rw [hbb];omega
    rwa [Int.natCast_mul] at h
  have hr:=run_make (P:=Try.prog) w 22 56 i _ Try.underlying22 hi0 hz .i64 .i64 n n (by omega) (by omega) hb' (by omega)
  simp only [Int.toNat_natCast,hs] at hr
  unfold Oper.wp
  simp [execOp,ho,hl,hc,hr,Result.andThen]
  exact hK _ _ (h _ _ (Nat.le_refl _) (Blk.newAt (made_picks n) rfl) ((Below.refl _ _).alloc (Nat.le_refl _) _))
theorem xN {P : Program} {fn : Func} {p : Tmp} {a : Nat} {ty : TypeId} (h : fn.results = #[.tmp a,.cell p ty]) (tmps : Array Value) (w : World) (g : Nat) (t : TypeId) (cs : List Value) (d : TypeDesc) (va : Value)
    (hp : tmps.getD p undef = .pointer (some ⟨g,0,none⟩)) (ha : tmps.getD a undef = va) (hg : Blk w g t cs)
    (hu : P.underlying ty = some d) (hd : (match d with | .struct _ | .array _ _ => true | _ => false) = true) (hi : (P.info? ty).map (·.size) = some cs.length) :
    (results fn tmps).run P w = .ok (.tuple #[va,.agg cs.toArray]) w:=by
  subst ha
  have hp' : tmps[p]?.getD undef = .pointer (some ⟨g,0,none⟩):=by simpa using hp
  simp [results,h,hp',asAddr,run_loadVar_row w g t ty cs.toArray (0,0) d hg hu hd (by simpa using hi)]
def GetPost (n : Nat) (bs : List Nat) (w : World) : Ending → World → Prop:=fun e w' =>
  (4096 < n ∧ e = .returned (.tuple #[.slice none 0 0,.agg #[.int .i64 0,.int .i64 4]]) ∨
   n ≤ 4096 ∧ (∃ (i : Nat) (b : Nat),bs[i]? = some b ∧ 16 ≤ b ∧ (∀ (j : Nat) (c : Nat),j < i → bs[j]? = some c → c < 16) ∧ e = .returned (.tuple #[.slice none 0 0,.agg #[.int .i64 (i : Int),.int .i64 3]])) ∨
   n ≤ 4096 ∧ (∀ b ∈ bs,b < 16) ∧ ∃ g,e = .returned (.tuple #[.slice (some ⟨g,0,none⟩) n n,.agg #[.int .i64 0,.int .i64 0]]) ∧ w.heap.size ≤ g ∧ Blk w' g 56 (cellsR 2 pkV (bs.map M.bp))) ∧ Below w.heap.size w w'
def getTo (bs : List Nat) (n i : Nat) : List Value:=cellsR 2 pkV ((bs.take i).map M.bp ++ List.replicate (n - i) (0,false))
theorem getTo_len {bs : List Nat} {n i : Nat} (hz : bs.length = n) (hi : i ≤ n) : (getTo bs n i).length = n * 2:=by unfold getTo;rw [qJ];simp;omega
theorem getTo_zero (bs : List Nat) (n : Nat) : getTo bs n 0 = cellsR 2 pkV (List.replicate n ((0 : Int),false)):=by simp [getTo]
theorem cells2_at {l : List (Int × Bool)} {i : Nat} {x y : Int × Bool} (hx : l[i]? = some x) : ((cellsR 2 pkV l).set (i * 2) (.int .i64 y.1)).set (i * 2 + 1) (.bool y.2) = cellsR 2 pkV (l.set i y):=by
  have hl : i < l.length:=(List.getElem?_eq_some_iff.1 hx).1
  obtain ⟨y0,y1⟩:=y
  rw [show l.set i (y0,y1) = (l.set i (y0,x.2)).set i (y0,y1) by rw [List.set_set]]
  rw [uG (sz:=2) (f:=pkV) (j:=1) (x:=(y0,x.2)) (x':=(y0,y1)) (v:=.bool y1) (by rw [List.getElem?_set_self hl]) (by omega) (fun j hj => ?_)]
  · rw [uG (sz:=2) (f:=pkV) (j:=0) (x:=x) (x':=(y0,x.2)) (v:=.int .i64 y0) hx (by omega) (fun j hj => ?_)]
    · rfl
    · match j,hj with
      | 0,_ => rfl
      | 1,_ => rfl
  · match j,hj with
    | 0,_ => rfl
    | 1,_ => rfl
theorem getTo_set {bs : List Nat} {n i b : Nat} (hz : bs.length = n) (hx : bs[i]? = some b) : ((getTo bs n i).set (i * 2) (.int .i64 ((b % 8 : Nat) : Int))).set (i * 2 + 1) (.bool (decide (7 < b))) = getTo bs n (i + 1):=by
  have hi : i < bs.length:=(List.getElem?_eq_some_iff.1 hx).1
  have e1 : ((bs.take i).map M.bp).length = i:=by simp;omega
  have h0 : ((bs.take i).map M.bp ++ List.replicate (n - i) ((0 : Int),false))[i]? = some (0,false):=by
    rw [List.getElem?_append_right (by omega),e1,Nat.sub_self,List.getElem?_replicate,if_pos (by omega)]
  have:=cells2_at (y:=M.bp b) h0
  unfold getTo
  refine this.trans ?_
  congr 1
  rw [List.set_append_right _ _ (by omega),e1,Nat.sub_self,show n - i = (n - (i + 1)) + 1 by omega,List.replicate_succ,List.set_cons_zero,List.take_add_one,hx]
  simp
theorem getTo_all {bs : List Nat} {n : Nat} (hz : bs.length = n) : getTo bs n n = cellsR 2 pkV (bs.map M.bp):=by
  unfold getTo
  rw [Nat.sub_self,List.take_of_length_le (by omega)];simp
set_option maxRecDepth 100000 in
set_option maxHeartbeats 1600000 in
theorem sc_get (B : Nat) (A : Option Addr) (n c : Nat) (bs : List Nat) (w : World) (hp : Row byteV w B A n bs) (hb : ∀ x ∈ bs,x < 256) (hn : n ≤ 5000) (hB : B ≤ w.heap.size) :
    Calls Try.prog 37 #[.slice A n c] w (GetPost n bs w):=by
  have HP:=kp hp;have HLn:=kp hp.len;have H256:=kp hb
  clear hp hb
  by_cases hbig : 4096 < n
  · go_enter Try.func37,Try.ntmps37
    go_wp2_with (first
      | ((with_reducible show Sl 3);go_must (refine j7 rfl 35 rfl _ JS ?_);intro gs w1 hgs hk1 hw1;have HGs:=kp hgs;have HK1:=kp hk1;have HB1:=kp hw1;have hs1:=hw1.size;clear hk1 hw1 hgs)
      | ((with_reducible show Sn);go_must (refine j5 rfl 35 (.tmp 3) (.tmp 10) rfl gs [.int .i64 0,.int .i64 4] rfl rfl _ _ HK1.out xB rfl (zM 0 4) ?_);intro w2 hk2 hg2 hz2;have HK2:=kp hk2;have HB2:=kp (HB1.out.grown hg2 hs1 (fun k e => by cases e;exact HGs.out));clear hk2 hg2 hz2)
      | ((with_reducible show bodyPost _ _ _ _ _ _);exact bodyPost_ret (xN (P:=Try.prog) (fn:=Try.f37) rfl _ _ gs 35 _ _ _ rfl rfl HK2.out Try.underlying35 rfl xB) rfl ⟨.inl ⟨hbig,rfl⟩,HB2.out⟩))
  · have hsm : n ≤ 4096:=by omega
    clear hbig
    go_enter Try.func37,Try.ntmps37
    go_wp2_with (first
      | ((with_reducible show Sl 3);go_must (refine j7 rfl 35 rfl _ JS ?_);intro gs w1 hgs hk1 hw1;have HGs:=kp hgs;have HK1:=kp hk1;have HB1:=kp hw1;have hs1:=hw1.size;have hl1:=hk1.lt;clear hk1 hw1 hgs)
      | ((with_reducible show Sl 13);go_must (refine J9 rfl (.tmp 12) (.tmp 12) rfl n rfl rfl (by omega) ?_);intro gb w2 hgb hk2 hb2;have HGb : Kept (w.heap.size ≤ gb ∧ gb ≠ gs):=kp ⟨by omega,by omega⟩;have HK2 : Kept (Blk w2 gb 56 (getTo bs n 0)):=kp (by rw [getTo_zero];exact hk2);have HS2:=kp (HK1.out.below hb2 hl1);have HB2:=kp (HB1.out.trans (hb2.mono hs1));have hs2:=HB2.out.size;clear hk2 hb2 hgb))
    go_loopw [16] (fun v16 wr => ∃ i : Nat,i ≤ n ∧ v16 = .int .i64 i ∧ Blk wr gb 56 (getTo bs n i) ∧ Blk wr gs 35 [.int .i64 0,.int .i64 0] ∧ (∀ (j : Nat) x,j < i → bs[j]? = some x → x < 16) ∧ Below w.heap.size w wr) (fun v16 _ => n - (intOf v16).toNat)
    case atStart => exact ⟨0,by omega,rfl,HK2.out,HS2.out,(fun _ _ h => by omega),HB2.out⟩
    case round =>
      obtain ⟨i,hi,rfl,hk,hks,hbef,hbw⟩:=hrel
      have HK:=kp hk;have HS:=kp hks;have HBef:=kp hbef;have HBw:=kp hbw;have hsz:=hbw.size
      have HPr:=kp (HP.out.keep (w':=wr) fun p h => hbw.cell (by omega))
      clear hk hks hbef hbw
      by_cases hlt : i < n
      · obtain ⟨ad,b,rfl,hab,hx,c0⟩:=HPr.out.get hlt
        have HX:=kp hx
        have hb256 : b < 256:=H256.out b (List.mem_of_getElem? hx)
        replace c0 : wr.cell? (ad.add i) = some (.int .u8 (b : Int)):=c0
        clear hx
        by_cases hbad : 16 ≤ b
        · have HBad:=kp hbad
          go_wp2_with (first
            | ((with_reducible show Sn);go_must (refine j5 rfl 35 (.tmp 3) (.tmp 24) rfl gs [.int .i64 i,.int .i64 3] rfl rfl _ _ HS.out xB rfl (zM i 3) ?_);intro w3 hk3 hg3 hz3;have HK3:=kp hk3;have HB3:=kp (HBw.out.grown hg3 hsz (fun k e => by cases e;exact HGs.out));clear hk3 hg3 hz3)
            | ((with_reducible show bodyPost _ _ _ _ _ _);exact bodyPost_ret (xN (P:=Try.prog) (fn:=Try.f37) rfl _ _ gs 35 _ _ _ rfl rfl HK3.out Try.underlying35 rfl xB) rfl ⟨.inr (.inl ⟨hsm,i,b,HX.out,HBad.out,HBef.out,rfl⟩),HB3.out⟩))
        · have HOk : Kept (b < 16):=kp (by omega)
          have hd7 : decide (8 ≤ (b : Int)) = decide (7 < b):=by rw [decide_eq_decide];omega
          go_wp2_with (first
            | ((with_reducible show Sn);go_must (refine J8 rfl 56 (.tmp 33) (.tmp 32) rfl gb (i * 2) (.int .i64 ((b % 8 : Nat) : Int)) (.bool (decide (7 < b))) rfl rfl rfl rfl _ _ HK.out (by rw [getTo_len HLn.out hi];omega) JF ?_);intro w3 hk3 hg3 hz3
               rw [getTo_set HLn.out HX.out] at hk3
               have HK3:=kp hk3;have HS3:=kp (HS.out.grown hg3 (fun e => by cases e;exact HGb.out.2 rfl));have HB3:=kp (HBw.out.grown hg3 hsz (fun k e => by cases e;exact HGb.out.1));clear hk3 hg3 hz3))
          go_roundw
          case rel =>
            refine ⟨i + 1,by omega,by go_num,HK3.out,HS3.out,fun j y hj hy => ?_,HB3.out⟩
            by_cases e : j = i
            · subst e
              rw [HX.out] at hy
              cases hy
              exact HOk.out
            · exact HBef.out j y (by omega) hy
          case measure => simp [intOf];omega
      · have hge : n ≤ i:=by omega
        clear hlt
        go_wp2_with (first
          | ((with_reducible show Sn);go_must (refine j5 rfl 35 (.tmp 3) (.tmp 36) rfl gs [.int .i64 0,.int .i64 0] rfl rfl _ _ HS.out xB rfl (zM 0 0) ?_);intro w3 hk3 hg3 hz3;have HK3:=kp hk3;have HB3:=kp (HBw.out.grown hg3 hsz (fun k e => by cases e;exact HGs.out));have HR3:=kp (HK.out.grown hg3 (fun e => by cases e;exact HGb.out.2 rfl));clear hk3 hg3 hz3)
          | ((with_reducible show bodyPost _ _ _ _ _ _)
             have e : i = n:=by omega
             have hr:=HR3.out
             rw [e,getTo_all HLn.out] at hr
             exact bodyPost_ret (xN (P:=Try.prog) (fn:=Try.f37) rfl _ _ gs 35 _ _ _ rfl rfl HK3.out Try.underlying35 rfl xB) rfl ⟨.inr (.inr ⟨hsm,fun b hb => by
               obtain ⟨j,hj⟩:=List.getElem?_of_mem hb
               exact HBef.out j b (by have:=(List.getElem?_eq_some_iff.1 hj).1;have:=HLn.out;omega) hj,gb,rfl,HGb.out.1,hr⟩),HB3.out⟩))
theorem Blk.recs {α : Type} {sz : Nat} {f : α → Nat → Value} {w : World} {g n B : Nat} {t : TypeId} {l : List α} (h : Blk w g t (cellsR sz f l)) (hn : l.length = n) (hB : w.heap.size ≤ B) : Recs sz f w B (some ⟨g,0,none⟩) n l :=
  ⟨hn,fun _ => ⟨_,rfl,Nat.lt_of_lt_of_le h.lt hB,fun k x hx j hj => by
    have hadd : (⟨g,0,none⟩ : Addr).add (k * sz + j) = ⟨g,k * sz + j,none⟩:=by unfold Addr.add;split <;> simp_all
    rw [hadd,h.cell,lZ sz f l k j x hx hj]⟩⟩
theorem Blk.picks {w : World} {g n B : Nat} {t : TypeId} {l : List (Int × Bool)} (h : Blk w g t (cellsR 2 pkV l)) (hn : l.length = n) (hB : w.heap.size ≤ B) (hl : ∀ x ∈ l,I64 x.1) : Picks w B (some ⟨g,0,none⟩) n l:=⟨h.recs hn hB,hl⟩
theorem Picks.more {w : World} {B B2 : Nat} {A : Option Addr} {n : Nat} {l : List (Int × Bool)} (h : Picks w B A n l) (hB : B ≤ B2) : Picks w B2 A n l:=⟨h.1.more hB,h.2⟩
theorem Picks.below {w w' : World} {B : Nat} {A : Option Addr} {n : Nat} {l : List (Int × Bool)} (h : Picks w B A n l) (hb : Below B w w') : Picks w' B A n l:=h.keep fun _ hp => hb.cell hp
structure Only (G : Nat → Prop) (w w' : World) : Prop where
  os : w'.os = w.os
  tape : w'.tape = w.tape
  output : w'.output = w.output
  size : w.heap.size ≤ w'.heap.size
  block : ∀ k,k < w.heap.size → ¬ G k → w'.heap[k]? = w.heap[k]?
theorem Only.refl (G : Nat → Prop) (w : World) : Only G w w:=⟨rfl,rfl,rfl,Nat.le_refl _,fun _ _ _ => rfl⟩
theorem Only.trans {G : Nat → Prop} {w w1 w2 : World} (h : Only G w w1) (k : Only G w1 w2) : Only G w w2 :=
  ⟨k.os.trans h.os,k.tape.trans h.tape,k.output.trans h.output,Nat.le_trans h.size k.size,fun i hi hg => (k.block i (Nat.lt_of_lt_of_le hi h.size) hg).trans (h.block i hi hg)⟩
theorem Only.of_below {G : Nat → Prop} {w w' : World} (h : Below w.heap.size w w') : Only G w w':=⟨h.os,h.tape,h.output,h.size,fun k hk _ => h.block k hk⟩
theorem Only.of_grown {G : Nat → Prop} {w w' : World} {g : Nat} (h : w.grownBy w' (some g)) (hg : G g) : Only G w w':=⟨h.os,h.tape,h.output,h.size,fun k hk hn => h.block k hk (by intro e;cases e;exact hn hg)⟩
theorem Only.below {G : Nat → Prop} {w w' : World} {B : Nat} (h : Only G w w') (hB : B ≤ w.heap.size) (hG : ∀ k,G k → B ≤ k) : Below B w w' :=
  ⟨h.os,h.tape,h.output,h.size,fun k hk => h.block k (by omega) fun hg => by have:=hG k hg;omega⟩
theorem Only.cell {G : Nat → Prop} {w w' : World} (h : Only G w w') {p : Addr} (hp : p.block < w.heap.size) (hg : ¬ G p.block) : w'.cell? p = w.cell? p:=World.cell?_of_block (w:=w) (h.block _ hp hg)
theorem Only.blk {G : Nat → Prop} {w w' : World} {g : Nat} {t : TypeId} {cs : List Value} (h : Only G w w') (hk : Blk w g t cs) (hg : ¬ G g) : Blk w' g t cs:=by
  unfold Blk;rw [h.block g hk.lt hg];exact hk
theorem Row.only {α : Type} {f : α → Value} {G : Nat → Prop} {w w' : World} {B n : Nat} {A : Option Addr} {l : List α} (h : Row f w B A n l) (ho : Only G w w') (hB : B ≤ w.heap.size) (hg : ∀ ad,0 < n → A = some ad → ¬ G ad.block) : Row f w' B A n l :=
  ⟨h.len,fun hn => by
    obtain ⟨ad,e,hb,hc⟩:=h.cells hn
    exact ⟨ad,e,hb,fun k hlt => (ho.cell (by rw [add_block];omega) (by rw [add_block];exact hg ad hn e)).trans (hc k hlt)⟩⟩
theorem Row.onlyB {α : Type} {f : α → Value} {G : Nat → Prop} {w w' : World} {B n : Nat} {A : Option Addr} {l : List α} (h : Row f w B A n l) (ho : Only G w w') (hB : B ≤ w.heap.size) (hg : ∀ k,k < B → ¬ G k) : Row f w' B A n l :=
  h.keep fun p hp => ho.cell (by omega) (hg _ hp)
structure GFact (G : Nat → Prop) where
  holds : Value → World → Prop
  stays : ∀ v w w',Only G w w' → holds v w → holds v w'
def GFact.any (G : Nat → Prop) : GFact G:=⟨fun _ _ => True,fun _ _ _ _ h => h⟩
def GFact.is {G : Nat → Prop} (c : Value) : GFact G:=⟨fun v _ => v = c,fun _ _ _ _ h => h⟩
def GFact.bytes {G : Nat → Prop} (bs : List Nat) : GFact G :=
  ⟨fun v w => ∃ A cap,v = .slice A bs.length cap ∧ Row byteV w w.heap.size A bs.length bs ∧ ∀ ad,A = some ad → ¬ G ad.block,
   fun _ _ _ hb ⟨A,cap,hv,hr,hg⟩ => ⟨A,cap,hv,(hr.only hb (Nat.le_refl _) fun ad _ e => hg ad e).more hb.size,hg⟩⟩
def ActPost (G : Nat → Prop) (J : Nat → World → Prop) (p : Nat) (D : List Deferred) (W : World) (o : Oper) (R : GFact G) : Exit → Act → World → Prop
  | .normal,a,w => a.defers = D ∧ Only G W w ∧ J p w ∧ R.holds (slotOf o a) w
  | _,_,_ => False
def gfactAt {G : Nat → Prop} (R : List (GFact G)) (i : Nat) : GFact G:=R.getD i (.any G)
def ggiven {G : Nat → Prop} (R : List (GFact G)) (W : World) (T : Act → Prop) : List (Nat × Nat) → Act → Prop
  | [],a => T a
  | p :: ps,a => ∀ v,(gfactAt R p.1).holds v W → ggiven R W T ps (a.put (some p.2) v)
theorem zW {G : Nat → Prop} {R : List (GFact G)} {W : World} {T : Act → Prop} {a : Act} : ∀ (ps : List (Nat × Nat)) (b : Act),ggiven R W T ps b → (∀ p ∈ ps,(gfactAt R p.1).holds (a.tmps.getD p.2 undef) W) → T (fill a ps b)
  | [],_,h,_ => h
  | p :: ps,_,h,hp => zW ps _ (h _ (hp p (List.mem_cons_self))) fun q hq => hp q (List.mem_cons_of_mem _ hq)
def phase (acts : List Nat) (listed : Array Bool) : Nat:=acts.countP fun j => listed.getD j false
def rank (acts : List Nat) (i : Nat) : Nat:=acts.countP fun j => decide (j < i)
def actsOk (l : List Oper) (acts : List Nat) : Bool:=acts.all fun i => decide (i < l.length) && acts.all fun j => decide (i ≤ j) || ((masks l).getD i 0).testBit j
section
variable {P : Program} {l : List Oper} {Q : Exit → Act → World → Prop} {a0 : Act} {w : World} {G : Nat → Prop} {R : List (GFact G)} {J : Nat → World → Prop} {acts : List Nat} {D : List (List (Nat × Nat))} {every : List (Nat × Nat)}
structure GInv (l : List Oper) (acts : List Nat) (J : Nat → World → Prop) (R : List (GFact G)) (a0 : Act) (w : World) (listed : Array Bool) (a : Act) (W : World) : Prop where
  size : listed.size = l.length
  ext : Only G w W
  ph : J (phase acts listed) W
  defs : a.defers = a0.defers
  tsz : a.tmps.size = a0.tmps.size
  got : ∀ j oj d,l.toArray[j]? = some oj → oj.dst = some d → listed.getD j false = true → (gfactAt R j).holds (a.tmps.getD d undef) W
  old : ∀ t,(∀ j oj,l.toArray[j]? = some oj → oj.dst = some t → listed.getD j false = false) → a.tmps[t]? = a0.tmps[t]?
  shut : ∀ j oj,l.toArray[j]? = some oj → listed.getD j false = true → ∀ e ∈ oj.after,Region.binds .any e = true → listed.getD e.on false = true
theorem zS (acts : List Nat) (listed : Array Bool) (i : Nat) (h : i ∉ acts) : phase acts (listed.setIfInBounds i true) = phase acts listed:=by
  unfold phase
  refine List.countP_congr fun j hj => ?_
  have : i ≠ j:=fun e => h (by rw [e];exact hj)
  rw [getD_set_ne false this]
theorem phase_at {acts : List Nat} {listed : Array Bool} {i : Nat} (hb : ∀ j ∈ acts,j < i → listed.getD j false = true) (ha : ∀ j ∈ acts,i ≤ j → listed.getD j false = false) : phase acts listed = rank acts i:=by
  unfold phase rank
  refine List.countP_congr fun j hj => ?_
  rcases Nat.lt_or_ge j i with h | h
  · rw [hb j hj h];simpa using h
  · rw [ha j hj h];simp;omega
theorem Q9 {acts : List Nat} {listed : Array Bool} {i : Nat} (hn : acts.Nodup) (hi : i ∈ acts) (hs : i < listed.size) (hf : listed.getD i false = false) : phase acts (listed.setIfInBounds i true) = phase acts listed + 1:=by
  unfold phase
  induction acts with
  | nil => cases hi
  | cons x r ih =>
    rw [List.nodup_cons] at hn
    rw [List.countP_cons,List.countP_cons]
    by_cases hx : x = i
    · subst hx
      have h1 : (listed.setIfInBounds x true).getD x false = true:=by simp [hs]
      have h2:=zS r listed x hn.1
      unfold phase at h2
      rw [h1,hf,h2];simp
    · have hir : i ∈ r:=by
        rcases List.mem_cons.1 hi with h | h
        · exact absurd h.symm hx
        · exact h
      rw [ih hn.2 hir,getD_set_ne false (Ne.symm hx)]
      omega
theorem XK (hok : ∀ i o,l[i]? = some o → ∀ e ∈ o.after,Region.binds .any e = true → e.on < i) (hacts : actsOk l acts = true) {listed : Array Bool} {a : Act} {W : World} {i : Nat} {o : Oper} (hi : l[i]? = some o) (ha : i ∈ acts)
    (h : GInv l acts J R a0 w listed a W) (hall : ∀ e ∈ o.after,Region.binds .any e = true → listed.getD e.on false = true) (hlf : listed.getD i false = false) : phase acts listed = rank acts i:=by
  have hshut : ∀ j oj,l[j]? = some oj → listed.getD j false = true → ∀ e ∈ oj.after,Region.binds .any e = true → listed.getD e.on false = true:=fun j oj hj => h.shut j oj (by simpa using hj)
  unfold actsOk at hacts
  have h1:=List.all_eq_true.1 hacts i ha
  rw [Bool.and_eq_true] at h1
  refine phase_at (fun j hj hlt => ?_) fun j hj hle => ?_
  · have h2:=List.all_eq_true.1 h1.2 j hj
    rw [Bool.or_eq_true] at h2
    rcases h2 with h2 | h2
    · have : i ≤ j:=by simpa using h2
      omega
    · exact qN hok hshut i o hi hall j h2
  · by_cases hij : j = i
    · rw [hij];exact hlf
    · cases hlj : listed.getD j false
      · rfl
      · exfalso
        have h2:=List.all_eq_true.1 hacts j hj
        rw [Bool.and_eq_true] at h2
        have hjl : j < l.length:=by simpa using h2.1
        have h3:=List.all_eq_true.1 h2.2 i ha
        rw [Bool.or_eq_true] at h3
        rcases h3 with h3 | h3
        · have : j ≤ i:=by simpa using h3
          omega
        · have hjo : l[j]? = some l[j]:=List.getElem?_eq_getElem hjl
          have:=qN hok hshut j _ hjo (hshut j _ hjo hlj) i h3
          rw [hlf] at this;cases this
theorem GInv.step {listed : Array Bool} {a : Act} {W W' : World} {i : Nat} {o : Oper} {v : Value} (h : GInv l acts J R a0 w listed a W) (hi : l.toArray[i]? = some o) (hok : OpOk l.toArray D every a0.tmps.size i o)
    (hr : i ∈ Region.ready .any l.toArray listed) (hb : Only G W W') (hph : J (phase acts (listed.setIfInBounds i true)) W') (hv : ∀ d,o.dst = some d → (gfactAt R i).holds v W') : GInv l acts J R a0 w (listed.setIfInBounds i true) (a.put o.dst v) W':=by
  obtain ⟨hl,o',ho',hall⟩:=mem_ready.1 hr
  have hoo : o' = o:=by rw [hi] at ho';cases ho';rfl
  subst hoo
  have hilt : i < l.length:=by have:=(Array.getElem?_eq_some_iff.1 hi).1;simpa using this
  have hii : (listed.setIfInBounds i true).getD i false = true:=by
    have : i < listed.size:=by rw [h.size];exact hilt
    simp [this]
  refine ⟨by simp [h.size],h.ext.trans hb,hph,(yJ _ _ _).trans h.defs,(zP _ _ _).trans h.tsz,fun j oj d hj hd hlj => ?_,fun t ht => ?_,fun j oj hj hlj e he hbe => ?_⟩
  · by_cases hji : j = i
    · subst hji
      have : oj = o':=by rw [hi] at hj;cases hj;rfl
      subst this
      have hlt:=(hok.dst d hd).1
      rw [hd]
      have e1 : (a.put (some d) v).tmps.getD d undef = v:=by
        have:=xG a d d v
        rw [if_pos ⟨rfl,by rw [h.tsz];exact hlt⟩] at this
        simp [Array.getD_eq_getD_getElem?,this]
      rw [e1]
      exact hv d hd
    · have h1:=h.got j oj d hj hd (by rw [getD_set_ne false (Ne.symm hji)] at hlj;exact hlj)
      have e1 : (a.put o'.dst v).tmps.getD d undef = a.tmps.getD d undef:=by
        cases hod : o'.dst with
        | none => rfl
        | some d' =>
          have hne : d' ≠ d:=fun e => (hok.dst d' hod).2.2 j oj hj hji (by rw [e];exact hd)
          have:=xG a d' d v
          rw [if_neg (fun hh => hne hh.1)] at this
          simp [Array.getD_eq_getD_getElem?,this]
      rw [e1]
      exact (gfactAt R j).stays _ _ _ hb h1
  · have h1:=h.old t fun j oj hj hd => by
      have:=ht j oj hj hd
      by_cases hji : j = i
      · subst hji;rw [hii] at this;cases this
      · rwa [getD_set_ne false (Ne.symm hji)] at this
    cases hod : o'.dst with
    | none => exact h1
    | some d' =>
      have hne : d' ≠ t:=fun e => by
        have:=ht i o' hi (by rw [hod,e])
        rw [hii] at this;cases this
      rw [xG,if_neg (fun hh => hne hh.1)]
      exact h1
  · by_cases hji : j = i
    · subst hji
      have : oj = o':=by rw [hi] at hj;cases hj;rfl
      subst this
      exact getD_set_true (hall e he hbe)
    · rw [getD_set_ne false (Ne.symm hji)] at hlj
      exact getD_set_true (h.shut j oj hj hlj e he hbe)
theorem act_one {listed : Array Bool} {a : Act} {W : World} {K : Act → World → Prop} {i : Nat} {o : Oper} (hi : l.toArray[i]? = some o) (ok : OpOk l.toArray D every a0.tmps.size i o)
    (hob : ggiven R W (fun a1 => wpList P l.toArray (ActPost G J (phase acts (listed.setIfInBounds i true)) a0.defers W o (gfactAt R i)) [o] a1 W) (D.getD i []) a0)
    (h : GInv l acts J R a0 w listed a W) (hr : i ∈ Region.ready .any l.toArray listed) (hK : ∀ a' W',GInv l acts J R a0 w (listed.setIfInBounds i true) a' W' → K a' W') : wpOp P l.toArray Q i K a W:=by
  obtain ⟨hl,o',hi',hall'⟩:=mem_ready.1 hr
  have hall : ∀ e ∈ o.after,Region.binds .any e = true → listed.getD e.on false = true:=by
    rw [hi] at hi';cases hi';exact hall'
  have hlf : listed.getD i false = false:=by
    have : i < listed.size:=by rw [h.size];exact (by have:=(Array.getElem?_eq_some_iff.1 hi).1;simpa using this)
    simp [this] at hl ⊢;exact hl
  have hg:=zW (a:=a) (D.getD i []) a0 hob fun p hp => by
    obtain ⟨⟨oj,hj,hd⟩,e,he,hb,hon⟩:=ok.deps p hp
    exact h.got p.1 oj p.2 hj hd (by rw [← hon];exact hall e he hb)
  generalize ha1 : fill a (D.getD i []) a0 = a1 at hg
  have agree : ∀ t ∈ o.looksAt l.toArray,a.tmps[t]? = a1.tmps[t]?:=by
    intro t ht
    rw [← ha1,xU]
    by_cases hc : t ∈ (D.getD i []).map (·.2) ∧ t < a0.tmps.size
    · rw [if_pos hc,yK a t (by rw [h.tsz];exact hc.2)]
    · rw [if_neg hc]
      by_cases htl : t < a0.tmps.size
      · refine h.old t fun j oj hj hd => ?_
        rcases ok.looks t ht j oj hj hd with hin | ⟨e,he,hb,hon⟩
        · exact absurd ⟨List.mem_map.2 ⟨(j,t),hin,rfl⟩,htl⟩ hc
        · cases hlj : listed.getD j false
          · rfl
          · have:=h.shut j oj hj hlj e he hb
            rw [hon,hlf] at this;cases this
      · have n1 : a.tmps[t]? = none:=Array.getElem?_eq_none (by rw [h.tsz];exact Nat.le_of_not_lt htl)
        have n2 : a0.tmps[t]? = none:=Array.getElem?_eq_none (Nat.le_of_not_lt htl)
        rw [n1,n2]
  have hex : execOp a1.eval o = execOp a.eval o:=execOp_congr o ok.sel fun x hx => by
    cases x with
    | tmp t =>
      have:=agree t (List.mem_append_left _ (List.mem_filterMap.2 ⟨.tmp t,by simpa using hx,rfl⟩))
      simp [Act.eval,Array.getD_eq_getD_getElem?,this]
    | _ => rfl
  have hwt : Region.wanted o (yielded l.toArray a1.tmps) = Region.wanted o (yielded l.toArray a.tmps):=by
    unfold Region.wanted
    cases hgd : o.guard with
    | none => rfl
    | some gw =>
      obtain ⟨g,want⟩:=gw
      have hy : yielded l.toArray a1.tmps g = yielded l.toArray a.tmps g:=by
        unfold yielded
        cases ht : (l.toArray[g]?).bind (·.dst) with
        | none => rfl
        | some t =>
          have ht2 : (l[g]?.bind fun x => x.dst) = some t:=by simpa using ht
          have:=agree t (by simp [Oper.looksAt,hgd,ht2])
          simp [this]
      simp only [hy]
  have hsl : ∀ v d,o.dst = some d → slotOf o (a1.put o.dst v) = v:=by
    intro v d hd
    have hlt:=(ok.dst d hd).1
    have:=xG a1 d d v
    rw [if_pos ⟨rfl,by rw [← ha1,vN];exact hlt⟩] at this
    simp [slotOf,hd,Array.getD_eq_getD_getElem?,this]
  have done : ∀ v W',ActPost G J (phase acts (listed.setIfInBounds i true)) a0.defers W o (gfactAt R i) .normal (a1.put o.dst v) W' → K (a.put o.dst v) W':=by
    rintro v W' ⟨_,hb,hph,hv⟩
    refine hK _ _ (h.step hi ok hr hb hph fun d hd => ?_)
    rw [hsl v d hd] at hv
    exact hv
  unfold wpOp
  simp only [hi]
  rw [← hwt]
  unfold wpList at hg
  by_cases hw : Region.wanted o (yielded l.toArray a1.tmps) = true
  · rw [if_pos hw] at hg ⊢
    rcases hg with hg | ⟨_,_,_,hf⟩
    case inr => exact hf.elim
    refine .inl ?_
    unfold Oper.wp at hg ⊢
    rw [hex] at hg
    generalize (execOp a.eval o).run P W = r at *
    cases r with
    | ok n w' =>
      cases n <;> simp only [Oper.upon] at hg ⊢
      case value v => exact done v w' hg
      case skip => exact done undef w' hg
      case defer d =>
        obtain ⟨hd,_⟩:=hg
        rw [yJ] at hd
        have e1 : a1.defers = a0.defers:=by rw [← ha1];exact xI _ _ _
        simp only [e1] at hd
        exact absurd hd (by simp)
      case enter f args =>
        refine Calls.mono hg fun e w'' he => ?_
        cases e with
        | returned v => exact done v w'' he
        | panicked c => exact he.elim
        | outgrown => obtain ⟨_,_,hf⟩:=he;exact hf.elim
      case row row args => exact Rows.mono hg fun v w'' he => done v w'' he
    | halt x w' =>
      cases x <;> simp only [Oper.upon] at hg ⊢
      case panic v => exact hg.elim
  · rw [if_neg hw] at hg ⊢
    exact done undef W hg
theorem acts_any (hacts : ∀ i ∈ acts,i < l.length) (hok : ∀ i o,l.toArray[i]? = some o → OpOk l.toArray D every a0.tmps.size i o) (hev : ∀ p ∈ every,∃ oj,l.toArray[p.1]? = some oj ∧ oj.dst = some p.2)
    (hob : ∀ i o,l.toArray[i]? = some o → ∀ (listed : Array Bool) a W,GInv l acts J R a0 w listed a W → i ∈ Region.ready .any l.toArray listed → ggiven R W (fun a1 => wpList P l.toArray (ActPost G J (phase acts (listed.setIfInBounds i true)) a0.defers W o (gfactAt R i)) [o] a1 W) (D.getD i []) a0)
    (hend : ∀ W,Only G w W → J acts.length W → ggiven R W (fun a => Q .normal a W) every a0) :
    ∀ (fuel : Nat) (listed : Array Bool) (a : Act) (W : World),GInv l acts J R a0 w listed a W → listed.toList.count false ≤ fuel → wpAny P .any l.toArray Q fuel listed a W:=by
  have phase_all : ∀ {listed : Array Bool},(∀ j,j < l.toArray.size → listed.getD j false = true) → phase acts listed = acts.length:=by
    intro listed hall
    unfold phase
    exact List.countP_eq_length.2 fun j hj => hall j (by simpa using hacts j hj)
  have fin : ∀ (listed : Array Bool) (a : Act) (W : World),GInv l acts J R a0 w listed a W → (∀ j,j < l.toArray.size → listed.getD j false = true) → Q .normal a W:=by
    intro listed a W h hall
    have h1:=zW (a:=a) every a0 (hend W h.ext (by have:=h.ph;rwa [phase_all hall] at this)) fun p hp => by
      obtain ⟨oj,hj,hd⟩:=hev p hp
      exact h.got p.1 oj p.2 hj hd (hall p.1 (Array.getElem?_eq_some_iff.1 hj).1)
    have e1 : fill a every a0 = a:=by
      have e2 : (fill a every a0).tmps = a.tmps:=by
        apply Array.ext_getElem?
        intro t
        rw [xU]
        by_cases hc : t ∈ every.map (·.2) ∧ t < a0.tmps.size
        · rw [if_pos hc,yK a t (by rw [h.tsz];exact hc.2)]
        · rw [if_neg hc]
          by_cases ht : t < a0.tmps.size
          · refine (h.old t fun j oj hj hd => ?_).symm
            exfalso
            exact hc ⟨List.mem_map.2 ⟨(j,t),((hok j oj hj).dst t hd).2.1,rfl⟩,ht⟩
          · rw [Array.getElem?_eq_none (by omega),Array.getElem?_eq_none (by rw [h.tsz];omega)]
      have e3:=(xI a every a0).trans h.defs.symm
      cases hf : fill a every a0
      cases a
      rw [hf] at e2 e3
      simp only at e2 e3
      rw [e2,e3]
    rw [e1] at h1
    exact h1
  have one : ∀ (fuel : Nat) (listed : Array Bool) (a : Act) (W : World) (K : Act → World → Prop) (i : Nat),GInv l acts J R a0 w listed a W → i ∈ Region.ready .any l.toArray listed →
      (∀ a' W',GInv l acts J R a0 w (listed.setIfInBounds i true) a' W' → K a' W') → wpOp P l.toArray Q i K a W:=by
    intro fuel listed a W K i h hr hK
    obtain ⟨_,o,hi,_⟩:=mem_ready.1 hr
    exact act_one hi (hok i o hi) (hob i o hi listed a W h hr) h hr hK
  intro fuel
  induction fuel with
  | zero =>
    intro listed a W h hc
    have hall : ∀ j,j < l.toArray.size → listed.getD j false = true:=by
      intro j hj
      have hn : false ∉ listed.toList:=List.count_eq_zero.1 (by omega)
      have hjl : j < listed.size:=by rw [h.size];simpa using hj
      cases hb : listed[j]
      · exact absurd (by rw [← hb];exact Array.getElem_mem_toList hjl) hn
      · simp [hjl,hb]
    refine ⟨?_,fin _ _ _ h hall⟩
    cases hr : Region.ready .any l.toArray listed with
    | nil => rfl
    | cons x xs =>
      have hx : x ∈ Region.ready .any l.toArray listed:=by rw [hr];exact List.mem_cons_self
      obtain ⟨hl,o,hi,_⟩:=mem_ready.1 hx
      have hlt : x < l.toArray.size:=(Array.getElem?_eq_some_iff.1 hi).1
      have:=hall x hlt
      have hxl : x < listed.size:=by rw [h.size];simpa using hlt
      simp [hxl] at hl this
      rw [hl] at this;cases this
  | succ fuel ih =>
    intro listed a W h hc
    refine ⟨fun hr => fin _ _ _ h (yE hok (by simpa using h.size) hr),fun i hi => one fuel listed a W _ i h hi fun a' W' h' => ih _ _ _ h' ?_⟩
    obtain ⟨hl,o,ho,_⟩:=mem_ready.1 hi
    have hil : i < listed.size:=by rw [h.size];have:=(Array.getElem?_eq_some_iff.1 ho).1;simpa using this
    have:=xL listed.toList i (by
      simp [hil] at hl ⊢;exact hl)
    rw [Array.toList_setIfInBounds]
    omega
def gobs (P : Program) (ops : Array Oper) (acts : List Nat) (J : Nat → World → Prop) (R : List (GFact G)) (D : List (List (Nat × Nat))) (w : World) (a0 : Act) : Nat → List Oper → Prop
  | _,[] => True
  | i,o :: r => (if acts.contains i then ∀ W,Only G w W → J (rank acts i) W → ggiven R W (fun a1 => wpList P ops (ActPost G J (rank acts i + 1) a0.defers W o (gfactAt R i)) [o] a1 W) (D.getD i []) a0
      else ∀ p W,Only G w W → J p W → ggiven R W (fun a1 => wpList P ops (ActPost G J p a0.defers W o (gfactAt R i)) [o] a1 W) (D.getD i []) a0) ∧ gobs P ops acts J R D w a0 (i + 1) r
theorem gobs_at {ops : Array Oper} : ∀ (l : List Oper) (k : Nat),gobs P ops acts J R D w a0 k l → ∀ j o,l[j]? = some o →
    if acts.contains (k + j) then ∀ W,Only G w W → J (rank acts (k + j)) W → ggiven R W (fun a1 => wpList P ops (ActPost G J (rank acts (k + j) + 1) a0.defers W o (gfactAt R (k + j))) [o] a1 W) (D.getD (k + j) []) a0
      else ∀ p W,Only G w W → J p W → ggiven R W (fun a1 => wpList P ops (ActPost G J p a0.defers W o (gfactAt R (k + j))) [o] a1 W) (D.getD (k + j) []) a0
  | [],_,_,j,o,h => by simp at h
  | x :: l,k,ho,0,o,h => by
    simp at h;subst h
    exact ho.1
  | x :: l,k,ho,j + 1,o,h => by
    have:=gobs_at l (k + 1) ho.2 j o (by simpa using h)
    rw [show k + (j + 1) = k + 1 + j by omega]
    exact this
theorem xH {ops : Array Oper} {i : Nat} : gobs P ops acts J R D w a0 i []:=trivial
theorem jE {ops : Array Oper} {i : Nat} {o : Oper} {r : List Oper} (hn : acts.contains i = false) (h : ∀ p W,Only G w W → J p W → ggiven R W (fun a1 => wpList P ops (ActPost G J p a0.defers W o (gfactAt R i)) [o] a1 W) (D.getD i []) a0) (hr : gobs P ops acts J R D w a0 (i + 1) r) : gobs P ops acts J R D w a0 i (o :: r) :=
  ⟨by rw [if_neg (by rw [hn];decide)];exact h,hr⟩
theorem qL {ops : Array Oper} {i : Nat} {o : Oper} {r : List Oper} (q : Nat) (hq : rank acts i = q) (hn : acts.contains i = true) (h : ∀ W,Only G w W → J q W → ggiven R W (fun a1 => wpList P ops (ActPost G J (q + 1) a0.defers W o (gfactAt R i)) [o] a1 W) (D.getD i []) a0) (hr : gobs P ops acts J R D w a0 (i + 1) r) : gobs P ops acts J R D w a0 i (o :: r) :=
  ⟨by rw [if_pos hn,hq];exact h,hr⟩
def phs (l : List (World → Prop)) (p : Nat) (W : World) : Prop:=l.getD p (fun _ => True) W
theorem qD {id : Nat} (G : Nat → Prop) (acts : List Nat) (J : Nat → World → Prop) (R : List (GFact G)) (D : List (List (Nat × Nat))) (every : List (Nat × Nat)) (hm : P.follows .mixedOrders = true) (hok : partsOk l.toArray D every a0.tmps.size = true)
    (hacts : actsOk l acts = true) (hnd : acts.Nodup) (h0 : J 0 w.drew) (hob : gobs P l.toArray acts J R D w a0 0 l) (hend : ∀ W,Only G w W → J acts.length W → ggiven R W (fun a => Q .normal a W) every a0) : (Code.region id l.toArray true).wp P Q a0 w:=by
  unfold partsOk at hok
  simp only [Bool.and_eq_true] at hok
  have ok : ∀ i o,l.toArray[i]? = some o → OpOk l.toArray D every a0.tmps.size i o:=fun i o hi => OpOk.of (by
    have:=List.all_eq_true.1 hok.1 i (List.mem_range.2 (Array.getElem?_eq_some_iff.1 hi).1)
    rw [hi] at this
    exact this)
  have hev : ∀ p ∈ every,∃ oj,l.toArray[p.1]? = some oj ∧ oj.dst = some p.2:=fun p hp => by
    have:=List.all_eq_true.1 hok.2 p hp
    obtain ⟨oj,h6,h7⟩:=Option.bind_eq_some_iff.1 (beq_iff_eq.1 this)
    exact ⟨oj,h6,h7⟩
  have hacts2 : ∀ i ∈ acts,i < l.length:=fun i hi => by
    have:=List.all_eq_true.1 hacts i hi
    rw [Bool.and_eq_true] at this
    simpa using this.1
  have hback : ∀ i o,l[i]? = some o → ∀ e ∈ o.after,Region.binds .any e = true → e.on < i:=fun i o hi => (ok i o (by simpa using hi)).back
  refine wp_region_any hm (acts_any hacts2 ok hev (fun i o hi listed a W h hr => ?_) hend l.toArray.size _ a0 _ ⟨by simp,⟨rfl,rfl,rfl,Nat.le_refl _,fun _ _ _ => rfl⟩,?_,rfl,rfl,fun j oj d hj _ hl => ?_,fun _ _ => rfl,fun j oj hj hl => ?_⟩ (by simp))
  · have h1:=gobs_at l 0 hob i o (by simpa using hi)
    rw [Nat.zero_add] at h1
    obtain ⟨hl,o',hi',hall'⟩:=mem_ready.1 hr
    have hall : ∀ e ∈ o.after,Region.binds .any e = true → listed.getD e.on false = true:=by
      rw [hi] at hi';cases hi';exact hall'
    have hilt : i < listed.size:=by rw [h.size];have:=(Array.getElem?_eq_some_iff.1 hi).1;simpa using this
    have hlf : listed.getD i false = false:=by
      simp [hilt] at hl ⊢;exact hl
    by_cases ha : i ∈ acts
    · rw [if_pos (by simpa using ha)] at h1
      have hp:=XK hback hacts (by simpa using hi) ha h hall hlf
      rw [Q9 hnd ha hilt hlf,hp]
      exact h1 W h.ext (by rw [← hp];exact h.ph)
    · rw [if_neg (by simpa using ha)] at h1
      rw [zS acts listed i ha]
      exact h1 _ W h.ext h.ph
  · have : phase acts (Array.replicate l.toArray.size false) = 0:=by
      unfold phase
      refine List.countP_eq_zero.2 fun j hj => ?_
      have:=hacts2 j hj
      simp [this]
    rw [this];exact h0
  all_goals
    exfalso
    have hlt : j < l.toArray.size:=(Array.getElem?_eq_some_iff.1 hj).1
    have hlt2 : j < l.length:=by simpa using hlt
    simp [hlt2] at hl
end
theorem j8 {G : Nat → Prop} {J : Nat → World → Prop} {p : Nat} {D : List Deferred} {W : World} {o : Oper} {d : Nat} {c : Value} {a : Act} (ho : o.dst = some d) (hs : a.tmps.toList[d]? = some c) (hd : a.defers = D) (hj : J p W) : ActPost G J p D W o (GFact.is c) .normal a W:=by
  refine ⟨hd,Only.refl _ _,hj,?_⟩
  show slotOf o a = c
  have h : a.tmps[d]? = some c:=by simpa using hs
  simp [slotOf,ho,Array.getD_eq_getD_getElem?,h]
theorem lP {G : Nat → Prop} {J : Nat → World → Prop} {p : Nat} {D : List Deferred} {W W' : World} {o : Oper} {d : Nat} {c : Value} {R : GFact G} {a : Act} (ho : o.dst = some d) (hs : a.tmps.toList[d]? = some c) (hd : a.defers = D) (hb : Only G W W') (hj : J p W') (hr : R.holds c W') : ActPost G J p D W o R .normal a W':=by
  refine ⟨hd,hb,hj,?_⟩
  have h : a.tmps[d]? = some c:=by simpa using hs
  simp only [slotOf,ho,Array.getD_eq_getD_getElem?,h,Option.getD_some]
  exact hr
def earlyOk (l : List Oper) (acts E : List Nat) : Bool:=acts.all fun a => decide (a < l.length) && E.all fun i => ((masks l).getD a 0).testBit i
section
variable {P : Program} {l : List Oper} {Q : Exit → Act → World → Prop} {a0 : Act} {w : World} {G : Nat → Prop} {R : List (GFact G)} {J : Nat → World → Prop} {acts E : List Nat} {D : List (List (Nat × Nat))} {every : List (Nat × Nat)}
theorem early_phase (hok : ∀ i o,l[i]? = some o → ∀ e ∈ o.after,Region.binds .any e = true → e.on < i) (he : earlyOk l acts E = true) {listed : Array Bool} {a : Act} {W : World} {i : Nat} (hi : i ∈ E)
    (h : GInv l acts J R a0 w listed a W) (hlf : listed.getD i false = false) : phase acts listed = 0:=by
  unfold phase
  refine List.countP_eq_zero.2 fun j hj => ?_
  intro hlj
  have h1:=List.all_eq_true.1 he j hj
  rw [Bool.and_eq_true] at h1
  have hjl : j < l.length:=by simpa using h1.1
  have h2:=List.all_eq_true.1 h1.2 i hi
  have hshut : ∀ j oj,l[j]? = some oj → listed.getD j false = true → ∀ e ∈ oj.after,Region.binds .any e = true → listed.getD e.on false = true:=fun j oj hj => h.shut j oj (by simpa using hj)
  have hjo : l[j]? = some l[j]:=List.getElem?_eq_getElem hjl
  have:=qN hok hshut j _ hjo (hshut j _ hjo hlj) i h2
  rw [hlf] at this;cases this
def eobs (P : Program) (ops : Array Oper) (acts E : List Nat) (J : Nat → World → Prop) (R : List (GFact G)) (D : List (List (Nat × Nat))) (w : World) (a0 : Act) : Nat → List Oper → Prop
  | _,[] => True
  | i,o :: r => (if acts.contains i then ∀ W,Only G w W → J (rank acts i) W → ggiven R W (fun a1 => wpList P ops (ActPost G J (rank acts i + 1) a0.defers W o (gfactAt R i)) [o] a1 W) (D.getD i []) a0
      else if E.contains i then ∀ W,Only G w W → J 0 W → ggiven R W (fun a1 => wpList P ops (ActPost G J 0 a0.defers W o (gfactAt R i)) [o] a1 W) (D.getD i []) a0
      else ∀ p W,Only G w W → J p W → ggiven R W (fun a1 => wpList P ops (ActPost G J p a0.defers W o (gfactAt R i)) [o] a1 W) (D.getD i []) a0) ∧ eobs P ops acts E J R D w a0 (i + 1) r
theorem eobs_at {ops : Array Oper} : ∀ (l : List Oper) (k : Nat),eobs P ops acts E J R D w a0 k l → ∀ j o,l[j]? = some o →
    if acts.contains (k + j) then ∀ W,Only G w W → J (rank acts (k + j)) W → ggiven R W (fun a1 => wpList P ops (ActPost G J (rank acts (k + j) + 1) a0.defers W o (gfactAt R (k + j))) [o] a1 W) (D.getD (k + j) []) a0
      else if E.contains (k + j) then ∀ W,Only G w W → J 0 W → ggiven R W (fun a1 => wpList P ops (ActPost G J 0 a0.defers W o (gfactAt R (k + j))) [o] a1 W) (D.getD (k + j) []) a0
      else ∀ p W,Only G w W → J p W → ggiven R W (fun a1 => wpList P ops (ActPost G J p a0.defers W o (gfactAt R (k + j))) [o] a1 W) (D.getD (k + j) []) a0
  | [],_,_,j,o,h => by simp at h
  | x :: l,k,ho,0,o,h => by
    simp at h;subst h
    exact ho.1
  | x :: l,k,ho,j + 1,o,h => by
    have:=eobs_at l (k + 1) ho.2 j o (by simpa using h)
    rw [show k + (j + 1) = k + 1 + j by omega]
    exact this
theorem xJ {ops : Array Oper} {i : Nat} : eobs P ops acts E J R D w a0 i []:=trivial
theorem lI {ops : Array Oper} {i : Nat} {o : Oper} {r : List Oper} (hn : acts.contains i = false) (he : E.contains i = false) (h : ∀ p W,Only G w W → J p W → ggiven R W (fun a1 => wpList P ops (ActPost G J p a0.defers W o (gfactAt R i)) [o] a1 W) (D.getD i []) a0) (hr : eobs P ops acts E J R D w a0 (i + 1) r) : eobs P ops acts E J R D w a0 i (o :: r) :=
  ⟨by rw [if_neg (by rw [hn];decide),if_neg (by rw [he];decide)];exact h,hr⟩
theorem jB {ops : Array Oper} {i : Nat} {o : Oper} {r : List Oper} (hn : acts.contains i = false) (he : E.contains i = true) (h : ∀ W,Only G w W → J 0 W → ggiven R W (fun a1 => wpList P ops (ActPost G J 0 a0.defers W o (gfactAt R i)) [o] a1 W) (D.getD i []) a0) (hr : eobs P ops acts E J R D w a0 (i + 1) r) : eobs P ops acts E J R D w a0 i (o :: r) :=
  ⟨by rw [if_neg (by rw [hn];decide),if_pos he];exact h,hr⟩
theorem lQ {ops : Array Oper} {i : Nat} {o : Oper} {r : List Oper} (q : Nat) (hq : rank acts i = q) (hn : acts.contains i = true) (h : ∀ W,Only G w W → J q W → ggiven R W (fun a1 => wpList P ops (ActPost G J (q + 1) a0.defers W o (gfactAt R i)) [o] a1 W) (D.getD i []) a0) (hr : eobs P ops acts E J R D w a0 (i + 1) r) : eobs P ops acts E J R D w a0 i (o :: r) :=
  ⟨by rw [if_pos hn,hq];exact h,hr⟩
theorem q7 {id : Nat} (G : Nat → Prop) (acts E : List Nat) (J : Nat → World → Prop) (R : List (GFact G)) (D : List (List (Nat × Nat))) (every : List (Nat × Nat)) (hm : P.follows .mixedOrders = true) (hok : partsOk l.toArray D every a0.tmps.size = true)
    (hacts : actsOk l acts = true) (hearly : earlyOk l acts E = true) (hnd : acts.Nodup) (h0 : J 0 w.drew) (hob : eobs P l.toArray acts E J R D w a0 0 l) (hend : ∀ W,Only G w W → J acts.length W → ggiven R W (fun a => Q .normal a W) every a0) : (Code.region id l.toArray true).wp P Q a0 w:=by
  unfold partsOk at hok
  simp only [Bool.and_eq_true] at hok
  have ok : ∀ i o,l.toArray[i]? = some o → OpOk l.toArray D every a0.tmps.size i o:=fun i o hi => OpOk.of (by
    have:=List.all_eq_true.1 hok.1 i (List.mem_range.2 (Array.getElem?_eq_some_iff.1 hi).1)
    rw [hi] at this
    exact this)
  have hev : ∀ p ∈ every,∃ oj,l.toArray[p.1]? = some oj ∧ oj.dst = some p.2:=fun p hp => by
    have:=List.all_eq_true.1 hok.2 p hp
    obtain ⟨oj,h6,h7⟩:=Option.bind_eq_some_iff.1 (beq_iff_eq.1 this)
    exact ⟨oj,h6,h7⟩
  have hacts2 : ∀ i ∈ acts,i < l.length:=fun i hi => by
    have:=List.all_eq_true.1 hacts i hi
    rw [Bool.and_eq_true] at this
    simpa using this.1
  have hback : ∀ i o,l[i]? = some o → ∀ e ∈ o.after,Region.binds .any e = true → e.on < i:=fun i o hi => (ok i o (by simpa using hi)).back
  refine wp_region_any hm (acts_any hacts2 ok hev (fun i o hi listed a W h hr => ?_) hend l.toArray.size _ a0 _ ⟨by simp,⟨rfl,rfl,rfl,Nat.le_refl _,fun _ _ _ => rfl⟩,?_,rfl,rfl,fun j oj d hj _ hl => ?_,fun _ _ => rfl,fun j oj hj hl => ?_⟩ (by simp))
  · have h1:=eobs_at l 0 hob i o (by simpa using hi)
    rw [Nat.zero_add] at h1
    obtain ⟨hl,o',hi',hall'⟩:=mem_ready.1 hr
    have hall : ∀ e ∈ o.after,Region.binds .any e = true → listed.getD e.on false = true:=by
      rw [hi] at hi';cases hi';exact hall'
    have hilt : i < listed.size:=by rw [h.size];have:=(Array.getElem?_eq_some_iff.1 hi).1;simpa using this
    have hlf : listed.getD i false = false:=by
      simp [hilt] at hl ⊢;exact hl
    by_cases ha : i ∈ acts
    · rw [if_pos (by simpa using ha)] at h1
      have hp:=XK hback hacts (by simpa using hi) ha h hall hlf
      rw [Q9 hnd ha hilt hlf,hp]
      exact h1 W h.ext (by rw [← hp];exact h.ph)
    · rw [if_neg (by simpa using ha)] at h1
      rw [zS acts listed i ha]
      by_cases hE : i ∈ E
      · rw [if_pos (by simpa using hE)] at h1
        have hp0:=early_phase hback hearly hE h hlf
        rw [hp0]
        exact h1 W h.ext (by rw [← hp0];exact h.ph)
      · rw [if_neg (by simpa using hE)] at h1
        exact h1 _ W h.ext h.ph
  · have : phase acts (Array.replicate l.toArray.size false) = 0:=by
      unfold phase
      refine List.countP_eq_zero.2 fun j hj => ?_
      have:=hacts2 j hj
      simp [this]
    rw [this];exact h0
  all_goals
    exfalso
    have hlt : j < l.toArray.size:=(Array.getElem?_eq_some_iff.1 hj).1
    have hlt2 : j < l.length:=by simpa using hlt
    simp [hlt2] at hl
end
theorem l8 {G : Nat → Prop} {J : Nat → World → Prop} {p : Nat} {D : List Deferred} {W W' : World} {o : Oper} {a : Act} (hd : a.defers = D) (hb : Only G W W') (hj : J p W') : ActPost G J p D W o (GFact.any G) .normal a W':=⟨hd,hb,hj,trivial⟩
theorem Only.set {G : Nat → Prop} {W : World} {g k : Nat} {v : Value} (hg : G g) : Only G W (W.setCell ⟨g,k,none⟩ v):=Only.of_grown (g:=g) (jN (jK _ _)) hg
set_option maxRecDepth 100000 in
set_option maxHeartbeats 3200000 in
theorem uM (g B : Nat) (A : Option Addr) (n c : Nat) (bs : List Nat) (s : R.St) (hs : R.Ok bs s) (tu : List Nat) (a b gl : Nat) (s2 s3 s4 s5 : R.St)
    (h2 : T.p2 bs s = (tu,s2)) (h3 : T.p3 bs s = (a,s3)) (h4 : T.p4 bs s = (b,s4)) (h5 : T.p5 bs s = (gl,s5)) (w : World) (hk : Pd w g A n c s)
    (hr : Row byteV w B A n bs) (hb : ∀ x ∈ bs,x < 256) (hn : n ≤ 1000000) (hnc : n ≤ c) (hm : c ≤ maxLen) (hBg : B ≤ g) (hBw : B ≤ w.heap.size) :
    Calls Try.prog 34 #[.pointer (some ⟨g,0,none⟩)] w fun e w' => ∃ v,e = .returned (.tuple #[v,wtA ⟨none,0,0,[],(a : Int),(b : Int),(gl : Int)⟩]) ∧ Own w' w.heap.size 5 v (tu.map byteV) ∧ Pd w' g A n c s5 ∧ w.grownBy w' (some g) ∧ R.Ok bs s5:=by
  have HK:=kp hk;have HR:=kp hr;have HB:=kp hb;have HS:=kp hs;have HM:=kp hm
  obtain ⟨x1,s1,h1⟩ : ∃ x s',T.p1 bs s = (x,s'):=⟨_,_,rfl⟩
  have H1 : Kept (R.num bs s 4096 = (x1,s1)):=kp h1
  have H2 : Kept (R.raw bs s1 (x1 : Int) = (tu,s2)):=kp (by rw [← h2];unfold T.p2;rw [h1])
  have H3 : Kept (R.num bs s2 7 = (a,s3)):=kp (by rw [← h3];unfold T.p3;rw [h2])
  have H4 : Kept (R.num bs s3 7 = (b,s4)):=kp (by rw [← h4];unfold T.p4;rw [h3])
  have H5 : Kept (R.num bs s4 15 = (gl,s5)):=kp (by rw [← h5];unfold T.p5;rw [h4])
  have O1 : Kept (R.Ok bs s1):=kp (by have:=(R.num_ok hb hs 4096).1;rw [H1.out] at this;exact this)
  have O2 : Kept (R.Ok bs s2):=kp (by have:=R.raw_ok O1.out (x1 : Int);rw [H2.out] at this;exact this)
  have O3 : Kept (R.Ok bs s3):=kp (by have:=(R.num_ok hb O2.out 7).1;rw [H3.out] at this;exact this)
  have O4 : Kept (R.Ok bs s4):=kp (by have:=(R.num_ok hb O3.out 7).1;rw [H4.out] at this;exact this)
  have O5 : Kept (R.Ok bs s5):=kp (by have:=(R.num_ok hb O4.out 15).1;rw [H5.out] at this;exact this)
  have hgw:=hk.lt
  clear hk hr hb hs hm h1 h2 h3 h4 h5
  go_enter Try.func34,Try.ntmps34
  go_wp2_with (first
    | ((with_reducible show Sl 3);go_must (refine j7 rfl 24 rfl _ lW ?_);intro gr w1 hgr hk1 hw1
       have KR1 : Kept (Blk w1 gr 24 (wtC wtNone)):=kp hk1;have GW1 : Kept (w.grownBy w1 (some g)):=kp (jT hw1 _);have PD1:=kp (Blk.below HK.out hw1 hgw);have RW1:=kp (HR.out.below (hw1.mono hBw))
       have hz1:=hw1.size;have lr1:=hk1.lt
       clear hk1 hw1)
    | (go_at_call 60;fail))
  refine (pd_block g B A n c bs s HS.out 4096 x1 s1 H1.out tu s2 H2.out w1 PD1.out RW1.out HB.out hn hnc HM.out hBg (by omega)).mono ?_
  rintro e w2 ⟨v2,rfl,ho,hk2,hg2,hr2⟩
  have OW2:=kp ho;have PD2:=kp hk2;have RW2:=kp hr2;have KR2:=kp (KR1.out.grown hg2 (fun e => by cases e;omega));have GW2:=kp (lE GW1.out hg2)
  have hz2:=hg2.size
  obtain ⟨A2,c2,rfl,_,_,_⟩:=ho.bytes
  clear ho hk2 hg2 hr2
  generalize tu.length = ntu at *
  go_wp2_with (first
    | ((with_reducible show Sl 5);go_must (refine j7 rfl 24 rfl _ lW ?_);intro g5 w3 hg5 hk3 hw3
       have K53 : Kept (Blk w3 g5 24 [.slice none 0 0,.int .i64 0,.int .i64 0,.int .i64 0]):=kp hk3;have KR3:=kp (KR2.out.below hw3 KR2.out.lt);have GW3:=kp (zV GW2.out hw3);have PD3:=kp (Blk.below PD2.out hw3 PD2.out.lt);have RW3:=kp (RW2.out.below (hw3.mono (by omega)));have OW3:=kp (OW2.out.below hw3 (Nat.le_refl _));have NE5:=kp (Y2 OW2.out hg5)
       have hz3:=hw3.size;have l53:=hk3.lt
       clear hk3 hw3)
    | (go_at_call 61;fail))
  refine (Y0 g B A n c bs s2 O2.out 7 a s3 H3.out w3 PD3.out RW3.out HB.out hnc HM.out hBg (by omega)).mono ?_
  rintro e u0 ⟨rfl,hk,hg,hr⟩
  have KU:=kp (K53.out.grown hg (fun e => by cases e;omega));have RU:=kp (KR3.out.grown hg (fun e => by cases e;omega));have OU:=kp (OW3.out.far hg (JG OW3.out (by omega)));have PU:=kp hk;have WU:=kp hr;have GU:=kp (lE GW3.out hg)
  have hzu:=hg.size
  have hcz : u0.cell? ⟨g5,1,none⟩ = some (.int .i64 0):=KU.out.cell 1
  have hfz:=KU.out.frozen 1
  clear hk hg hr
  go_wp2_with fail
  have K54 : Kept (Blk (u0.setCell ⟨g5,1,none⟩ (.int .i64 (a : Int))) g5 24 [.slice none 0 0,.int .i64 (a : Int),.int .i64 0,.int .i64 0]):=kp (KU.out.set 1 _)
  have KR4:=kp (RU.out.other ⟨g5,1,none⟩ (.int .i64 (a : Int)) (by show gr ≠ g5;omega));have PD4 : Kept (Pd _ g A n c s3):=kp (Blk.other PU.out ⟨g5,1,none⟩ (.int .i64 (a : Int)) (by show g ≠ g5;omega))
  have OW4:=kp (OU.out.far (jN (g:=g5) (k:=1) (v:=.int .i64 (a : Int)) (jK _ _)) NE5.out);have RW4:=kp (WU.out.turned (jN (g:=g5) (k:=1) (v:=.int .i64 (a : Int)) (jK _ _)) (by omega) (by omega));have GW4:=kp (yP (a:=⟨g5,1,none⟩) (v:=.int .i64 (a : Int)) GU.out (by show w.heap.size ≤ g5;omega))
  have hz4 : u0.heap.size = (u0.setCell ⟨g5,1,none⟩ (.int .i64 (a : Int))).heap.size:=by simp
  generalize u0.setCell ⟨g5,1,none⟩ (.int .i64 (a : Int)) = q0 at *
  clear hcz hfz KU RU OU PU WU GU
  refine (Y0 g B A n c bs s3 O3.out 7 b s4 H4.out q0 PD4.out RW4.out HB.out hnc HM.out hBg (by omega)).mono ?_
  rintro e u1 ⟨rfl,hk,hg,hr⟩
  have KU:=kp (K54.out.grown hg (fun e => by cases e;omega));have RU:=kp (KR4.out.grown hg (fun e => by cases e;omega));have OU:=kp (OW4.out.far hg (JG OW4.out (by omega)));have PU:=kp hk;have WU:=kp hr;have GU:=kp (lE GW4.out hg)
  have hzu:=hg.size
  have hcz : u1.cell? ⟨g5,2,none⟩ = some (.int .i64 0):=KU.out.cell 2
  have hfz:=KU.out.frozen 2
  clear hk hg hr
  go_wp2_with fail
  have K55 : Kept (Blk (u1.setCell ⟨g5,2,none⟩ (.int .i64 (b : Int))) g5 24 [.slice none 0 0,.int .i64 (a : Int),.int .i64 (b : Int),.int .i64 0]):=kp (KU.out.set 2 _)
  have KR5:=kp (RU.out.other ⟨g5,2,none⟩ (.int .i64 (b : Int)) (by show gr ≠ g5;omega));have PD5 : Kept (Pd _ g A n c s4):=kp (Blk.other PU.out ⟨g5,2,none⟩ (.int .i64 (b : Int)) (by show g ≠ g5;omega))
  have OW5:=kp (OU.out.far (jN (g:=g5) (k:=2) (v:=.int .i64 (b : Int)) (jK _ _)) NE5.out);have RW5:=kp (WU.out.turned (jN (g:=g5) (k:=2) (v:=.int .i64 (b : Int)) (jK _ _)) (by omega) (by omega));have GW5:=kp (yP (a:=⟨g5,2,none⟩) (v:=.int .i64 (b : Int)) GU.out (by show w.heap.size ≤ g5;omega))
  have hz5 : u1.heap.size = (u1.setCell ⟨g5,2,none⟩ (.int .i64 (b : Int))).heap.size:=by simp
  generalize u1.setCell ⟨g5,2,none⟩ (.int .i64 (b : Int)) = q1 at *
  clear hcz hfz KU RU OU PU WU GU
  refine (Y0 g B A n c bs s4 O4.out 15 gl s5 H5.out q1 PD5.out RW5.out HB.out hnc HM.out hBg (by omega)).mono ?_
  rintro e u2 ⟨rfl,hk,hg,hr⟩
  have KU:=kp (K55.out.grown hg (fun e => by cases e;omega));have RU:=kp (KR5.out.grown hg (fun e => by cases e;omega));have OU:=kp (OW5.out.far hg (JG OW5.out (by omega)));have PU:=kp hk;have WU:=kp hr;have GU:=kp (lE GW5.out hg)
  have hzu:=hg.size
  have hcz : u2.cell? ⟨g5,3,none⟩ = some (.int .i64 0):=KU.out.cell 3
  have hfz:=KU.out.frozen 3
  clear hk hg hr
  go_wp2_with fail
  have K56 : Kept (Blk (u2.setCell ⟨g5,3,none⟩ (.int .i64 (gl : Int))) g5 24 [.slice none 0 0,.int .i64 (a : Int),.int .i64 (b : Int),.int .i64 (gl : Int)]):=kp (KU.out.set 3 _)
  have KR6:=kp (RU.out.other ⟨g5,3,none⟩ (.int .i64 (gl : Int)) (by show gr ≠ g5;omega));have PD6 : Kept (Pd _ g A n c s5):=kp (Blk.other PU.out ⟨g5,3,none⟩ (.int .i64 (gl : Int)) (by show g ≠ g5;omega))
  have OW6:=kp (OU.out.far (jN (g:=g5) (k:=3) (v:=.int .i64 (gl : Int)) (jK _ _)) NE5.out);have RW6:=kp (WU.out.turned (jN (g:=g5) (k:=3) (v:=.int .i64 (gl : Int)) (jK _ _)) (by omega) (by omega));have GW6:=kp (yP (a:=⟨g5,3,none⟩) (v:=.int .i64 (gl : Int)) GU.out (by show w.heap.size ≤ g5;omega))
  have hz6 : u2.heap.size = (u2.setCell ⟨g5,3,none⟩ (.int .i64 (gl : Int))).heap.size:=by simp
  generalize u2.setCell ⟨g5,3,none⟩ (.int .i64 (gl : Int)) = q2 at *
  clear hcz hfz KU RU OU PU WU GU
  have lr6:=KR6.out.lt;have l56:=K56.out.lt
  apply qD (fun k => k = gr) [3] (phs ([fun W => Blk W gr 24 (wtC wtNone),fun W => Blk W gr 24 [.slice none 0 0,.int .i64 (a : Int),.int .i64 (b : Int),.int .i64 (gl : Int)]])) (.is _ :: .is _ :: .is _ :: .any _ :: [])
    [[],[],[(0,17)],[(1,18)]]
    [(0,17),(1,18),(2,2)] (by kernel_rfl) (by kernel_rfl) (by kernel_rfl) (by decide)
  case h0 => exact KR6.out
  case hob =>
    refine jE rfl ?o0 (jE rfl ?o1 (jE rfl ?o2 (qL 0 rfl rfl ?o3 (xH))))
    case o0 => intro p W hO hJ;change wpList _ _ _ _ _ _;go_wp2;exact j8 rfl rfl rfl hJ
    case o1 =>
      intro p W hO hJ;change wpList _ _ _ _ _ _
      refine j4 rfl 24 (.tmp 5) rfl g5 rfl _ [.slice none 0 0,.int .i64 (a : Int),.int .i64 (b : Int),.int .i64 (gl : Int)] _ (hO.blk K56.out (by omega)) Try.underlying24 rfl jD ?_
      go_wp2;exact j8 rfl rfl rfl hJ
    case o2 => intro p W hO hJ;rintro _ rfl;change wpList _ _ _ _ _ _;go_wp2;exact j8 rfl rfl rfl hJ
    case o3 =>
      intro W hO hJ;rintro _ rfl;change wpList _ _ _ _ _ _
      have hj : Blk W gr 24 (wtC wtNone):=hJ
      refine j5 rfl 24 (.tmp 3) (.tmp 18) rfl gr [.slice none 0 0,.int .i64 (a : Int),.int .i64 (b : Int),.int .i64 (gl : Int)] rfl rfl _ _ hj jD rfl (jU ⟨none,0,0,[],(a : Int),(b : Int),(gl : Int)⟩) ?_
      intro wa hka hga hza
      go_wp2
      exact l8 rfl (Only.of_grown hga rfl) hka
  case hend =>
    intro W hO hJ;rintro _ rfl;rintro _ rfl;rintro _ rfl
    simp only [ggiven,jJ,List.set]
    have HKa : Kept (Blk W gr 24 [.slice none 0 0,.int .i64 (a : Int),.int .i64 (b : Int),.int .i64 (gl : Int)]):=kp hJ
    have HGa : Kept (q2.grownBy W (some gr)):=kp ⟨hO.os,hO.tape,hO.output,hO.size,fun k hk hne => hO.block k hk (fun e => hne (by rw [e]))⟩
    clear hJ hO
    go_wp2
    refine bodyPost_ret (xN (P:=Try.prog) (fn:=Try.f34) rfl _ _ gr 24 _ _ _ rfl rfl HKa.out Try.underlying24 rfl jD) rfl ⟨_,rfl,?_,?_,?_,O5.out⟩
    · exact (OW6.out.far HGa.out (JG OW6.out (by omega))).less (by omega)
    · exact Blk.grown PD6.out HGa.out (by intro e;cases e;omega)
    · exact ⟨HGa.out.os.trans GW6.out.os,HGa.out.tape.trans GW6.out.tape,HGa.out.output.trans GW6.out.output,Nat.le_trans GW6.out.size HGa.out.size,fun k hk hne => (HGa.out.block k (by have:=GW6.out.size;omega) (by intro e;cases e;omega)).trans (GW6.out.block k hk hne)⟩
end Go.Proofs.Ytcbfghcdbmlneaa
