/- Bytes read as a witness, as the document does it, walked: Read. -/
import Derived.Test.YtcbfghcdbmlneaaWitP4
import Derived.Test.YtcbfghcdbmlneaaPk13
import Derived.Test.YtcbfghcdbmlneaaPk14
import Derived.Test.YtcbfghcdbmlneaaPk1
import Derived.Test.YtcbfghcdbmlneaaPk9
namespace Go.Proofs.Ytcbfghcdbmlneaa
open Go.RowKit
theorem lK {P : Program} {fn : Func} {p : Tmp} {a b : Nat} {ty : TypeId} (h : fn.results = #[.cell p ty,.tmp a,.tmp b]) (tmps : Array Value) (w : World) (g : Nat) (t : TypeId) (cs : List Value) (d : TypeDesc) (va vb : Value)
    (hp : tmps.getD p undef = .pointer (some ⟨g,0,none⟩)) (ha : tmps.getD a undef = va) (hb : tmps.getD b undef = vb) (hg : Blk w g t cs)
    (hu : P.underlying ty = some d) (hd : (match d with | .struct _ | .array _ _ => true | _ => false) = true) (hi : (P.info? ty).map (·.size) = some cs.length) :
    (results fn tmps).run P w = .ok (.tuple #[.agg cs.toArray,va,vb]) w:=by
  subst ha hb
  have hp' : tmps[p]?.getD undef = .pointer (some ⟨g,0,none⟩):=by simpa using hp
  simp [results,h,hp',asAddr,run_loadVar_row w g t ty cs.toArray (0,0) d hg hu hd (by simpa using hi)]
theorem xW (x : Int × Bool) (j : Nat) : (pkV x j).oneCell' = true:=by unfold pkV;split <;> rfl
theorem xC : (Try.prog.info? 56).map (fun i => (i.zero,i.size,i.bytes)) = some (some (.agg #[.int .i64 0,.bool false]),2,16):=by kernel_rfl
theorem take_bp {tu : List Nat} {i x : Nat} (hx : tu[i]? = some x) : (tu.take i).map M.bp ++ [M.bp x] = (tu.take (i + 1)).map M.bp:=by
  rw [List.take_add_one,hx];simp
theorem sne {a b : Nat} (h : a ≠ b) : some a ≠ some b:=fun e => h (Option.some.inj e)
theorem QF {α : Type} {sz : Nat} {f : α → Nat → Value} {w : World} {B i : Nat} {e : TypeId} {v : Value} {l : List α} (h : OwnR sz f w B e v l) (hl : l.length = i) : (v = .slice none 0 0 ∧ i = 0) ∨ (∃ q,v = .slice (some ⟨q,0,none⟩) i i) ∨ ∃ q cap,v = .slice (some ⟨q,0,none⟩) i cap ∧ i + 1 ≤ cap:=by
  subst hl
  rcases h.2 with ⟨rfl,h0⟩ | ⟨q,cap,cur,rfl,_,_,hn,_⟩
  · exact .inl ⟨rfl,h0⟩
  · rcases Nat.lt_or_ge l.length cap with h1 | h1
    · exact .inr (.inr ⟨q,cap,rfl,h1⟩)
    · have e : cap = l.length:=by omega
      subst e
      exact .inr (.inl ⟨q,rfl⟩)
theorem ownR_cap {α : Type} {sz : Nat} {f : α → Nat → Value} {w : World} {B n cap : Nat} {A : Option Addr} {e : TypeId} {l : List α} (h : OwnR sz f w B e (.slice A n cap) l) : cap ≤ maxLen:=by
  obtain ⟨A',c',e1,_,h2,_⟩:=h.form
  injection e1 with _ _ e3
  rw [e3];exact h2
theorem XB {α : Type} {sz : Nat} {f : α → Nat → Value} {w : World} {L g : Nat} {e : TypeId} {v : Value} {l : List α} (h : OwnR sz f w L e v l) (hg : g < L) : v.ownBlock = none ∨ v.ownBlock ≠ some g:=by
  rcases hob : v.ownBlock with _ | k
  · exact .inl rfl
  · exact .inr (by have:=(h.block k hob).1;intro e;cases e;omega)
theorem XD {G G' : Nat → Prop} {w w' : World} {L : Nat} (h : Only G w w') (hG : ∀ k,G k → k < L → G' k) : Only (fun k => G' k ∨ L ≤ k) w w' :=
  ⟨h.os,h.tape,h.output,h.size,fun k hk hn => h.block k hk fun hg => hn (by rcases Nat.lt_or_ge k L with h1 | h1;exact .inl (hG k hg h1);exact .inr h1)⟩
theorem only_low {G : Nat → Prop} {w w' w2 : World} (h : Only G w w') (h2 : Only (fun k => G k ∨ w.heap.size ≤ k) w' w2) : Only G w w2 :=
  ⟨h2.os.trans h.os,h2.tape.trans h.tape,h2.output.trans h.output,Nat.le_trans h.size h2.size,fun k hk hg => (h2.block k (by have:=h.size;omega) (by rintro (h3 | h3);exact hg h3;omega)).trans (h.block k hk hg)⟩
def Fact.ownN {α : Type} (sz : Nat) (f : α → Nat → Value) (B : Nat) (e : TypeId) (K _n : Nat) (l : List α) : Fact :=
  ⟨fun v W => OwnR sz f W B e v l ∧ ∀ k,v.ownBlock = some k → K ≤ k,fun _ _ _ hb ⟨h1,h2⟩ => ⟨h1.below hb (Nat.le_refl _),h2⟩⟩
def RRead (w : World) (d : T.WD) (at_ why : Nat) : Ending → World → Prop:=fun e w' => ∃ x : Wt,e = .returned (.tuple #[wtA x,.int .i64 (at_ : Int),.int .i64 (why : Int)]) ∧ x.Ok w' w'.heap.size ∧ x.data d ∧ Below w.heap.size w w'
set_option maxRecDepth 1000000 in
set_option maxHeartbeats 16000000 in
theorem rw_read (A : Option Addr) (n c : Nat) (bs : List Nat) (w : World) (hr : Row byteV w w.heap.size A n bs) (hnc : n ≤ c) (hcm : c ≤ maxLen) (hb : ∀ x ∈ bs,x < 256) (hn : n ≤ 1000000) (d : T.WD) (at_ why : Nat) (hx : T.read bs = (d,at_,why)) :
    Calls Try.prog 15 #[.slice A n c] w (RRead w d at_ why):=by
  have HR:=kp hr;have HB:=kp hb;have HX:=kp hx;have HLb:=kp hr.len;have HCm:=kp hcm
  obtain ⟨out,s1,h0⟩ : ∃ out s1,T.h0 bs = (out,s1):=⟨_,_,rfl⟩
  have HH0 : Kept (R.raw bs T.s0 4 = (out,s1)):=kp h0
  have HE0:=kp h0
  have HS0 : Kept (R.Ok bs T.s0):=kp ⟨Nat.zero_le _,Nat.zero_le _,by decide⟩
  have HO1 : Kept (R.Ok bs s1):=kp (by have:=T.h0_ok bs;rw [h0] at this;exact this)
  have HF1 : Kept (R.Fit s1):=kp (by have:=T.h0_fit bs;rw [h0] at this;exact this)
  have HLong : Kept (s1.why = 0 → out.length = 4 ∧ ∀ x ∈ out,x < 256):=kp (fun h => by
    obtain ⟨a1,a2⟩:=T.h0_long (bs:=bs) (by rw [h0];exact h)
    rw [h0] at a1 a2
    simp only at a1 a2
    exact ⟨a2,fun x hx => by rw [a1] at hx;exact hb x (List.mem_of_mem_take hx)⟩)
  have HShort : Kept (s1.why ≠ 0 → out = []):=kp (fun h => by have:=T.h0_short (bs:=bs) (by rw [h0];exact h);rw [h0] at this;exact this)
  obtain ⟨tu,s2,h2⟩ : ∃ a b,T.p2 bs s1 = (a,b):=⟨_,_,rfl⟩
  obtain ⟨a,s3,h3⟩ : ∃ a b,T.p3 bs s1 = (a,b):=⟨_,_,rfl⟩
  obtain ⟨b,s4,h4⟩ : ∃ a b,T.p4 bs s1 = (a,b):=⟨_,_,rfl⟩
  obtain ⟨gl,s5,h5⟩ : ∃ a b,T.p5 bs s1 = (a,b):=⟨_,_,rfl⟩
  obtain ⟨s6,h6⟩ : ∃ s,T.endOf n s5 = s:=⟨_,rfl⟩
  have H2:=kp h2;have H3:=kp h3;have H4:=kp h4;have H5:=kp h5
  have H6 : Kept ((if s5.why = 0 ∧ s5.at_ < n then R.fail s5 7 else s5) = s6):=kp h6
  have HFin : Kept (T.fin bs = s6):=kp (by unfold T.fin;rw [h0,h5,hr.len];exact h6)
  have HFit : Kept (R.Fit s6):=kp (by rw [← h6];refine T.endOf_fit ?_;have:=T.p5_fit (bs:=bs) HF1.out;rw [h5] at this;exact this)
  have HTu : Kept (s6.why = 0 → tu.length ≤ 4096 ∧ (a : Int) ≤ 7 ∧ (b : Int) ≤ 7 ∧ (gl : Int) ≤ 15):=kp (fun h => by
    obtain ⟨_,f2,_⟩:=T.endOf_zero (show (T.endOf n s5).why = 0 by rw [h6];exact h)
    obtain ⟨g1,_,_⟩:=C.num_eats hb (show (R.num bs (T.p4 bs s1).2 15).2.why = 0 by have:=congrArg (·.2.why) h5;exact this.trans f2)
    obtain ⟨j1,_,_⟩:=C.num_eats hb (show (R.num bs (T.p3 bs s1).2 7).2.why = 0 from g1)
    obtain ⟨k1,_,_⟩:=C.num_eats hb (show (R.num bs (T.p2 bs s1).2 7).2.why = 0 from j1)
    obtain ⟨_,l2,_⟩:=T.raw_eats (show (R.raw bs (T.p1 bs s1).2 ((T.p1 bs s1).1 : Int)).2.why = 0 from k1)
    have x1 : ((T.p1 bs s1).1 : Int) ≤ 4096:=R.num_le (bs:=bs) (s:=s1) (most:=4096) (by omega)
    have x3 : ((T.p3 bs s1).1 : Int) ≤ 7:=R.num_le (bs:=bs) (s:=(T.p2 bs s1).2) (most:=7) (by omega)
    have x4 : ((T.p4 bs s1).1 : Int) ≤ 7:=R.num_le (bs:=bs) (s:=(T.p3 bs s1).2) (most:=7) (by omega)
    have x5 : ((T.p5 bs s1).1 : Int) ≤ 15:=R.num_le (bs:=bs) (s:=(T.p4 bs s1).2) (most:=15) (by omega)
    have e : (T.p2 bs s1).1.length = (T.p1 bs s1).1:=l2
    rw [h2] at e;rw [h3] at x3;rw [h4] at x4;rw [h5] at x5
    simp only at e x3 x4 x5
    exact ⟨by omega,x3,x4,x5⟩)
  have HTub : Kept (∀ x ∈ tu,x < 256):=kp (fun x hx => by
    have e : tu = (R.raw bs (T.p1 bs s1).2 ((T.p1 bs s1).1 : Int)).1:=by have:=congrArg (·.1) h2;exact this.symm
    rw [e] at hx
    unfold R.raw at hx
    split at hx
    · split at hx
      · cases hx
      · split at hx
        · cases hx
        · exact hb x (List.mem_of_mem_drop (List.mem_of_mem_take hx))
    · cases hx)
  have HForm : Kept (s1.why = 0 → out ≠ T.mark → d = T.none_ ∧ at_ = 0 ∧ why = 3):=kp (fun e1 e2 => by
    rw [T.read_form (by rw [h0];exact ⟨e1,e2⟩)] at hx;cases hx;exact ⟨rfl,rfl,rfl⟩)
  have HNf : Kept ((s1.why = 0 → out = T.mark) → ¬ ((T.h0 bs).2.why = 0 ∧ (T.h0 bs).1 ≠ T.mark)):=kp (fun e1 e2 => by rw [h0] at e2;exact e2.2 (e1 e2.1))
  obtain ⟨x1,t1,h1⟩ : ∃ a b,T.p1 bs s1 = (a,b):=⟨_,_,rfl⟩
  have N1 : Kept (R.num bs s1 4096 = (x1,t1)):=kp h1
  have N2 : Kept (R.raw bs t1 (x1 : Int) = (tu,s2)):=kp (by rw [← h2];unfold T.p2;rw [h1])
  have N3 : Kept (R.num bs s2 7 = (a,s3)):=kp (by rw [← h3];unfold T.p3;rw [h2])
  have N4 : Kept (R.num bs s3 7 = (b,s4)):=kp (by rw [← h4];unfold T.p4;rw [h3])
  have N5 : Kept (R.num bs s4 15 = (gl,s5)):=kp (by rw [← h5];unfold T.p5;rw [h4])
  have O1 : Kept (R.Ok bs t1):=kp (by have:=(R.num_ok hb HO1.out 4096).1;rw [N1.out] at this;exact this)
  have O2 : Kept (R.Ok bs s2):=kp (by have:=R.raw_ok O1.out (x1 : Int);rw [N2.out] at this;exact this)
  have O3 : Kept (R.Ok bs s3):=kp (by have:=(R.num_ok hb O2.out 7).1;rw [N3.out] at this;exact this)
  have O4 : Kept (R.Ok bs s4):=kp (by have:=(R.num_ok hb O3.out 7).1;rw [N4.out] at this;exact this)
  have O5 : Kept (R.Ok bs s5):=kp (by have:=(R.num_ok hb O4.out 15).1;rw [N5.out] at this;exact this)
  have hx1 : (x1 : Int) ≤ 4096:=by have:=R.num_le (bs:=bs) (s:=s1) (most:=4096) (by omega);rw [N1.out] at this;exact this
  have hI7 : I64 (a : Int) ∧ I64 (b : Int) ∧ I64 (gl : Int):=by
    have y3:=R.num_le (bs:=bs) (s:=s2) (most:=7) (by omega);rw [N3.out] at y3
    have y4:=R.num_le (bs:=bs) (s:=s3) (most:=7) (by omega);rw [N4.out] at y4
    have y5:=R.num_le (bs:=bs) (s:=s4) (most:=15) (by omega);rw [N5.out] at y5
    simp only at y3 y4 y5
    unfold I64;omega
  have HI7:=kp hI7
  clear hr hb hx h0 h1 h2 h3 h4 h5 h6 hI7 hcm
  unfold RRead
  go_enter Try.func15,Try.ntmps15
  go_wp2_with (first
    | ((with_reducible show Sl 2);go_must (refine j7 rfl 24 rfl _ lW ?_);intro gr w1 hgr hk1 hw1;have KR1 : Kept (Blk w1 gr 24 [.slice none 0 0,.int .i64 0,.int .i64 0,.int .i64 0]):=kp hk1;have HW1:=kp hw1;have hs1:=hw1.size;have hl1:=hk1.lt;clear hk1 hw1)
    | ((with_reducible show Sl 5);go_must (refine j7 rfl 24 rfl _ lW ?_);intro g5 w2 hg5 hk2 hw2
       have KZ2:=kp hk2;have KR2:=kp (KR1.out.below hw2 hl1);have HW2:=kp (HW1.out.trans (hw2.mono hs1));have hs2:=hw2.size;have hl2:=hk2.lt
       clear hk2 hw2)
    | ((with_reducible show Sn);(refine j5 rfl 24 (.tmp 5) (.tmp 11) rfl g5 [.slice none 0 0,.int .i64 0,.int .i64 0,.int .i64 0] rfl rfl _ _ KZ2.out jD rfl (jU wtNone) ?_);intro w3 hk3 hg3 hz3
       have KZ3:=kp hk3;have KR3:=kp (KR2.out.grown hg3 (by intro e;cases e;omega));have HW3:=kp (HW2.out.grown hg3 (by omega) (by intro k e;cases e;omega));have hs3:=HW3.out.size
       have HR3:=kp (HR.out.below HW3.out)
       clear hk3 hg3)
    | ((with_reducible refine j6 rfl 86 (.tmp 13) rfl (rdC A n c T.s0) rfl ?_);intro g w4 hg4 hk4 hw4
       have RD4 : Kept (Rd w4 g A n c T.s0):=kp hk4
       have HR4:=kp (HR3.out.below (hw4.mono hs3));have KR4:=kp (KR3.out.below hw4 KR3.out.lt);have KZ4:=kp (KZ3.out.below hw4 KZ3.out.lt);have HW4:=kp (HW3.out.trans (hw4.mono hs3));have hs4:=HW4.out.size
       have hlg:=hk4.lt
       have hlr3:=KR3.out.lt;have hlz3:=KZ3.out.lt
       clear hk4 hw4)
    | (go_at_call 38;fail))
  refine (rd_raw g w.heap.size A n c bs T.s0 HS0.out 4 (by omega) out s1 HH0.out w4 RD4.out HR4.out (by omega) (by omega) (by omega)).mono ?_
  rintro e w5 ⟨v,rfl,hown,hk5,hg5',hr5⟩
  obtain ⟨A7,c7,rfl,hc7,hm7,hr7⟩:=Own.readsN hown rfl
  have RD5:=kp hk5;have RW5:=kp hr5
  have KR5:=kp (KR4.out.grown hg5' (by intro e;cases e;omega));have KZ5:=kp (KZ4.out.grown hg5' (by intro e;cases e;omega))
  have HB5:=kp (HW4.out.grown hg5' hs4 (by intro k e;cases e;omega));have hs5:=HB5.out.size;have hlg5:=hk5.lt
  have hz45:=hg5'.size
  obtain ⟨hq0,hq1,hq2,hq3,_,_,_⟩:=hk5.cells
  have hm77 : c7 ≤ 9223372036854775807:=by unfold maxLen at hm7;omega
  have hcv:=J6 (c:=c7) hr7
  clear hown hk5 hg5' hr5 hm7 hr7
  by_cases hw1 : s1.why = 0
  · by_cases hmk : out = T.mark
    · have hnf : s1.why = 0 → out = T.mark:=fun _ => hmk
      have hte:=T.mark_is hmk
      have hwz : ((s1.why : Int) == 0) = true:=by rw [beq_iff_eq];omega
      clear hw1 hmk
      go_wp2_with (go_at_call 39;fail)
      clear hwz hte
      refine (zO g w.heap.size A n c bs s1 HO1.out 4096 x1 t1 N1.out w5 RD5.out RW5.out HB.out hnc HCm.out (by omega) (by omega)).mono ?_
      rintro e w6 ⟨rfl,hk,hg,hr⟩
      have RD6:=kp hk;have RW6:=kp hr;have KR6:=kp (KR5.out.grown hg (by intro e;cases e;omega));have KZ6:=kp (KZ5.out.grown hg (by intro e;cases e;omega));have HB6:=kp (HB5.out.grown hg hs5 (by intro k e;cases e;omega))
      have hs6:=HB6.out.size;have hz56:=hg.size
      clear hk hg hr hq0 hq1 hq2 hq3 hcv
      go_wp2_with fail
      refine (rd_raw g w.heap.size A n c bs t1 O1.out (x1 : Int) (by omega) tu s2 N2.out w6 RD6.out RW6.out (by omega) (by omega) (by omega)).mono ?_
      rintro e w7 ⟨v8,rfl,hown,hk,hg,hr⟩
      obtain ⟨A8,c8,rfl,hc8,hm8,hr8⟩:=Own.readsN hown rfl
      have HT7:=kp hr8;have RD7:=kp hk;have RW7:=kp hr;have KR7:=kp (KR6.out.grown hg (by intro e;cases e;omega));have KZ7:=kp (KZ6.out.grown hg (by intro e;cases e;omega));have HB7:=kp (HB6.out.grown hg hs6 (by intro k e;cases e;omega));have HBo:=kp hown.block
      have hs7:=HB7.out.size;have hz67:=hg.size
      have hm88 : c8 ≤ 9223372036854775807:=by unfold maxLen at hm8;omega
      clear hown hk hg hr hm8 hr8
      obtain ⟨nt,hnt⟩ : ∃ nt,tu.length = nt:=⟨_,rfl⟩
      rw [hnt] at HT7 HBo ⊢
      have HNt:=kp hnt
      have HAd : Kept (∀ ad,A8 = some ad → ad.block ≠ g):=kp (fun ad e => by subst e;have:=(HBo.out ad.block rfl).1;omega)
      clear hnt HBo
      go_wp2_with (first
        | ((with_reducible show Sl 9);go_must (refine j7 rfl 24 rfl _ lW ?_);intro g9 w8 hg9 hk8 hw8
           have K98:=kp hk8;have KR8:=kp (KR7.out.below hw8 KR7.out.lt);have KZ8:=kp (KZ7.out.below hw8 KZ7.out.lt);have RD8:=kp (Blk.below RD7.out hw8 RD7.out.lt);have RW8:=kp (RW7.out.below (hw8.mono (by omega)));have HT8:=kp (HT7.out.below hw8);have HB8:=kp (HB7.out.trans (hw8.mono hs7))
           have hs8:=HB8.out.size;have hz78:=hw8.size;have hl98:=hk8.lt
           have hl7r:=KR7.out.lt;have hl7z:=KZ7.out.lt;have hl7g:=RD7.out.lt
           clear hk8 hw8)
        | ((with_reducible show Sn);(refine j5 rfl 24 (.tmp 9) (.tmp 32) rfl g9 [.slice none 0 0,.int .i64 0,.int .i64 0,.int .i64 0] rfl rfl _ _ K98.out jD rfl (jU wtNone) ?_);intro w9 hk9 hgg9 hz9
           have K99:=kp hk9;have KR9:=kp (KR8.out.grown hgg9 (by intro e;cases e;omega));have KZ9:=kp (KZ8.out.grown hgg9 (by intro e;cases e;omega));have RD9:=kp (Blk.grown RD8.out hgg9 (by intro e;cases e;omega));have RW9:=kp (RW8.out.turned hgg9 (by omega) (by omega));have HT9:=kp (HT8.out.turned hgg9 (by omega) (by omega));have HB9:=kp (HB8.out.grown hgg9 hs8 (by intro k e;cases e;omega))
           have hs9:=HB9.out.size
           have NE : Kept (gr ≠ g9 ∧ g5 ≠ g9 ∧ g ≠ g9 ∧ gr ≠ g ∧ g5 ≠ g ∧ g5 ≠ gr):=kp ⟨by omega,by omega,by omega,by omega,by omega,by omega⟩
           have LO : Kept (w.heap.size ≤ g ∧ w.heap.size ≤ g9):=kp ⟨by omega,by omega⟩
           have h7 : w7.heap.size ≤ g9:=by omega
           have h79 : w7.heap.size ≤ w9.heap.size:=by omega
           clear hk9 hgg9 hs1 hl1 hs2 hl2 hs3 hs4 hlg hlr3 hlz3 hz45 hlg5 hs5 hs6 hz56 hz67 hs7 hs8 hz78 hl98 hl7r hl7z hl7g hz9 hg9 hg5 hg4 hz3)
        | (go_at_call 39;fail))
      refine (zO g w.heap.size A n c bs s2 O2.out 7 a s3 N3.out w9 RD9.out RW9.out HB.out hnc HCm.out LO.out.1 hs9).mono ?_
      rintro e u0 ⟨rfl,hk,hg,hr⟩
      have hzu:=hg.size
      have KU:=kp (K99.out.grown hg (sne NE.out.2.2.1.symm));have RU:=kp (KR9.out.grown hg (sne NE.out.2.2.2.1));have ZU:=kp (KZ9.out.grown hg (sne NE.out.2.2.2.2.1));have TU:=kp (HT9.out.grown hg h79 (fun a _ e e2 => by cases e2;exact HAd.out a e rfl));have PU:=kp hk;have WU:=kp hr;have BU:=kp (HB9.out.grown hg hs9 (fun k e => by cases e;exact LO.out.1))
      have hsu:=BU.out.size
      have h7u : w7.heap.size ≤ u0.heap.size:=Nat.le_trans h79 hzu
      have hcz : u0.cell? ⟨g9,1,none⟩ = some (.int .i64 0):=KU.out.cell 1
      have hfz:=KU.out.frozen 1
      clear hk hg hr hzu
      go_wp2_with fail
      have GS : Kept (u0.grownBy (u0.setCell ⟨g9,1,none⟩ (.int .i64 (a : Int))) (some g9)):=kp (jN (jK _ _))
      have K9a0 : Kept (Blk (u0.setCell ⟨g9,1,none⟩ (.int .i64 (a : Int))) g9 24 [.slice none 0 0,.int .i64 (a : Int),.int .i64 0,.int .i64 0]):=kp (KU.out.set 1 _)
      have KRa0:=kp (RU.out.grown GS.out (sne NE.out.1));have KZa0:=kp (ZU.out.grown GS.out (sne NE.out.2.1));have RDa0 : Kept (Rd _ g A n c s3):=kp (Blk.grown PU.out GS.out (sne NE.out.2.2.1))
      have HTa0:=kp (TU.out.turned GS.out h7u h7);have RWa0:=kp (WU.out.turned GS.out hsu LO.out.2);have HBa0:=kp (BU.out.grown GS.out hsu (fun k e => by cases e;exact LO.out.2))
      have hsa0:=HBa0.out.size
      have h7a0 : w7.heap.size ≤ (u0.setCell ⟨g9,1,none⟩ (.int .i64 (a : Int))).heap.size:=Nat.le_trans h7u GS.out.size
      generalize u0.setCell ⟨g9,1,none⟩ (.int .i64 (a : Int)) = q0 at *
      clear hcz hfz KU RU ZU TU PU WU BU GS hsu h7u hs9 h79
      refine (zO g w.heap.size A n c bs s3 O3.out 7 b s4 N4.out q0 RDa0.out RWa0.out HB.out hnc HCm.out LO.out.1 hsa0).mono ?_
      rintro e u1 ⟨rfl,hk,hg,hr⟩
      have hzu:=hg.size
      have KU:=kp (K9a0.out.grown hg (sne NE.out.2.2.1.symm));have RU:=kp (KRa0.out.grown hg (sne NE.out.2.2.2.1));have ZU:=kp (KZa0.out.grown hg (sne NE.out.2.2.2.2.1));have TU:=kp (HTa0.out.grown hg h7a0 (fun a _ e e2 => by cases e2;exact HAd.out a e rfl));have PU:=kp hk;have WU:=kp hr;have BU:=kp (HBa0.out.grown hg hsa0 (fun k e => by cases e;exact LO.out.1))
      have hsu:=BU.out.size
      have h7u : w7.heap.size ≤ u1.heap.size:=Nat.le_trans h7a0 hzu
      have hcz : u1.cell? ⟨g9,2,none⟩ = some (.int .i64 0):=KU.out.cell 2
      have hfz:=KU.out.frozen 2
      clear hk hg hr hzu
      go_wp2_with fail
      have GS : Kept (u1.grownBy (u1.setCell ⟨g9,2,none⟩ (.int .i64 (b : Int))) (some g9)):=kp (jN (jK _ _))
      have K9a1 : Kept (Blk (u1.setCell ⟨g9,2,none⟩ (.int .i64 (b : Int))) g9 24 [.slice none 0 0,.int .i64 (a : Int),.int .i64 (b : Int),.int .i64 0]):=kp (KU.out.set 2 _)
      have KRa1:=kp (RU.out.grown GS.out (sne NE.out.1));have KZa1:=kp (ZU.out.grown GS.out (sne NE.out.2.1));have RDa1 : Kept (Rd _ g A n c s4):=kp (Blk.grown PU.out GS.out (sne NE.out.2.2.1))
      have HTa1:=kp (TU.out.turned GS.out h7u h7);have RWa1:=kp (WU.out.turned GS.out hsu LO.out.2);have HBa1:=kp (BU.out.grown GS.out hsu (fun k e => by cases e;exact LO.out.2))
      have hsa1:=HBa1.out.size
      have h7a1 : w7.heap.size ≤ (u1.setCell ⟨g9,2,none⟩ (.int .i64 (b : Int))).heap.size:=Nat.le_trans h7u GS.out.size
      generalize u1.setCell ⟨g9,2,none⟩ (.int .i64 (b : Int)) = q1 at *
      clear hcz hfz KU RU ZU TU PU WU BU GS hsu h7u hsa0 h7a0
      refine (zO g w.heap.size A n c bs s4 O4.out 15 gl s5 N5.out q1 RDa1.out RWa1.out HB.out hnc HCm.out LO.out.1 hsa1).mono ?_
      rintro e u2 ⟨rfl,hk,hg,hr⟩
      have hzu:=hg.size
      have KU:=kp (K9a1.out.grown hg (sne NE.out.2.2.1.symm));have RU:=kp (KRa1.out.grown hg (sne NE.out.2.2.2.1));have ZU:=kp (KZa1.out.grown hg (sne NE.out.2.2.2.2.1));have TU:=kp (HTa1.out.grown hg h7a1 (fun a _ e e2 => by cases e2;exact HAd.out a e rfl));have PU:=kp hk;have WU:=kp hr;have BU:=kp (HBa1.out.grown hg hsa1 (fun k e => by cases e;exact LO.out.1))
      have hsu:=BU.out.size
      have h7u : w7.heap.size ≤ u2.heap.size:=Nat.le_trans h7a1 hzu
      clear hk hg hr hzu
      by_cases hw5 : s5.why = 0
      rotate_left
      · have HSE : Kept (s6 = s5):=kp (by rw [← H6.out];exact if_neg (fun h => hw5 h.1))
        have hwz : ((s5.why : Int) == 0) = false:=by rw [beq_eq_false_iff_ne];omega
        have hwz2 : ((s5.why : Int) != 0) = true:=by rw [bne_iff_ne];omega
        have hxe:=HX.out
        rw [T.read_fault (HNf.out hnf) (by rw [HFin.out];exact (by rw [HSE.out];exact hw5)),HFin.out] at hxe
        obtain ⟨rfl,h7⟩:=Prod.mk.inj hxe
        obtain ⟨rfl,rfl⟩:=Prod.mk.inj h7
        clear hxe h7
        have hse:=HSE.out.symm
        subst hse
        clear hw5
        go_wp2_with (first
          | ((with_reducible show Sn);(refine j9 rfl 3 (.tmp 41) (.tmp 40) rfl g9 3 (.int .i64 (gl : Int)) rfl rfl rfl rfl _ _ KU.out (show 3 < 4 by omega) lS ?_);intro q2 hka hga hza
             have K9a2 : Kept (Blk q2 g9 24 [.slice none 0 0,.int .i64 (a : Int),.int .i64 (b : Int),.int .i64 (gl : Int)]):=kp hka
             have KRa2:=kp (RU.out.grown hga (sne NE.out.1));have KZa2:=kp (ZU.out.grown hga (sne NE.out.2.1));have RDa2 : Kept (Rd q2 g A n c s5):=kp (Blk.grown PU.out hga (sne NE.out.2.2.1))
             have HTa2:=kp (TU.out.turned hga h7u h7);have HBa2:=kp (BU.out.grown hga hsu (fun k e => by cases e;exact LO.out.2))
             have hsa2:=HBa2.out.size;have h72 : w7.heap.size ≤ q2.heap.size:=by omega
             obtain ⟨_,hq1,hq2,hq3,_,_,_⟩:=RDa2.out.cells
             clear hka hga hza KU RU ZU TU PU WU BU hsu h7u)
          | fail)
        have HKaz:=kp KRa2.out;have HKbz:=kp KZa2.out;have HRdz:=kp RDa2.out;have HBz:=kp HBa2.out
        have hszz:=HBz.out.size
        clear hq1 hq2 hq3
        apply qD (fun k => k = gr) [9] (phs ([fun W => Blk W gr 24 [.slice none 0 0,.int .i64 0,.int .i64 0,.int .i64 0],fun W => Blk W gr 24 [.slice none 0 0,.int .i64 0,.int .i64 0,.int .i64 0]])) (.is _ :: .is _ :: .is _ :: .is _ :: .is _ :: .is _ :: .is _ :: .is _ :: .is _ :: .any _ :: .is _ :: .is _ :: [])
          [[],[],[(1,64)],[(2,65)],[(3,66)],[],[(5,68)],[(6,69)],[(7,70)],[(0,63)],[(4,67)],[(8,71)]]
          [(0,63),(1,64),(2,65),(3,66),(4,67),(5,68),(6,69),(7,70),(8,71),(10,3),(11,4)] (by kernel_rfl) (by kernel_rfl) (by kernel_rfl) (by decide)
        case h0 => exact HKaz.out
        case hob =>
          refine jE rfl ?o0 (jE rfl ?o1 (jE rfl ?o2 (jE rfl ?o3 (jE rfl ?o4 (jE rfl ?o5 (jE rfl ?o6 (jE rfl ?o7 (jE rfl ?o8 (qL 0 rfl rfl ?o9 (jE rfl ?o10 (jE rfl ?o11 (xH))))))))))))
          case o0 =>
            intro p W hO hJ;change wpList _ _ _ _ _ _
            refine j4 rfl 24 (.tmp 5) rfl g5 rfl _ [.slice none 0 0,.int .i64 0,.int .i64 0,.int .i64 0] _ (hO.blk HKbz.out NE.out.2.2.2.2.2) Try.underlying24 rfl jD ?_
            go_wp2;exact j8 rfl rfl rfl hJ
          case o1 => intro p W hO hJ;change wpList _ _ _ _ _ _;go_wp2;exact j8 rfl rfl rfl hJ
          case o2 => intro p W hO hJ;rintro _ rfl;change wpList _ _ _ _ _ _;go_wp2;exact j8 rfl rfl rfl hJ
          case o3 => intro p W hO hJ;rintro _ rfl;change wpList _ _ _ _ _ _;go_wp2;exact j8 rfl rfl rfl hJ
          case o4 =>
            intro p W hO hJ;rintro _ rfl;change wpList _ _ _ _ _ _
            have hq : W.cell? ⟨g,2,none⟩ = some (.int .i64 (s5.wh : Int)):=(hO.blk HRdz.out NE.out.2.2.2.1.symm).cell 2
            go_wp2;exact j8 rfl rfl rfl hJ
          case o5 => intro p W hO hJ;change wpList _ _ _ _ _ _;go_wp2;exact j8 rfl rfl rfl hJ
          case o6 => intro p W hO hJ;rintro _ rfl;change wpList _ _ _ _ _ _;go_wp2;exact j8 rfl rfl rfl hJ
          case o7 => intro p W hO hJ;rintro _ rfl;change wpList _ _ _ _ _ _;go_wp2;exact j8 rfl rfl rfl hJ
          case o8 =>
            intro p W hO hJ;rintro _ rfl;change wpList _ _ _ _ _ _
            have hq : W.cell? ⟨g,3,none⟩ = some (.int .i64 (s5.why : Int)):=(hO.blk HRdz.out NE.out.2.2.2.1.symm).cell 3
            go_wp2;exact j8 rfl rfl rfl hJ
          case o9 =>
            intro W hO hJ;rintro _ rfl;change wpList _ _ _ _ _ _
            have hj : Blk W gr 24 [.slice none 0 0,.int .i64 0,.int .i64 0,.int .i64 0]:=hJ
            refine j5 rfl 24 (.tmp 2) (.tmp 63) rfl gr [.slice none 0 0,.int .i64 0,.int .i64 0,.int .i64 0] rfl rfl _ _ hj jD rfl (jU wtNone) ?_
            intro wa hka hga hza
            go_wp2
            exact l8 rfl (Only.of_grown hga rfl) hka
          case o10 => intro p W hO hJ;rintro _ rfl;change wpList _ _ _ _ _ _;go_wp2;exact j8 rfl rfl rfl hJ
          case o11 => intro p W hO hJ;rintro _ rfl;change wpList _ _ _ _ _ _;go_wp2;exact j8 rfl rfl rfl hJ
        case hend =>
          intro W hO hJ;rintro _ rfl;rintro _ rfl;rintro _ rfl;rintro _ rfl;rintro _ rfl;rintro _ rfl;rintro _ rfl;rintro _ rfl;rintro _ rfl;rintro _ rfl;rintro _ rfl
          simp only [ggiven,jJ,List.set]
          have HKa : Kept (Blk W gr 24 [.slice none 0 0,.int .i64 0,.int .i64 0,.int .i64 0]):=kp hJ
          have HBa : Kept (Below w.heap.size w W):=kp (HBz.out.trans (hO.below hszz (fun k hk => by subst hk;exact hgr)))
          clear hJ hO
          go_wp2_with ((with_reducible show bodyPost _ _ _ _ _ _);exact bodyPost_ret (lK (P:=Try.prog) (fn:=Try.f15) rfl _ _ gr 24 _ _ _ _ rfl rfl rfl HKa.out Try.underlying24 rfl jD) rfl ⟨wtNone,rfl,lF _ _,lD,HBa.out⟩)
      by_cases hat : s5.at_ < n
      · have HSE : Kept (R.fail s5 7 = s6):=kp (by rw [← H6.out];exact (if_pos ⟨hw5,hat⟩).symm)
        have hw6 : s6.why = 7:=by rw [← HSE.out];unfold R.fail;rw [if_pos hw5]
        have hwz : ((s5.why : Int) == 0) = true:=by rw [beq_iff_eq];omega
        have hatz : decide (s5.at_ < n) = true:=decide_eq_true hat
        have hwz2 : ((s6.why : Int) != 0) = true:=by rw [bne_iff_ne];omega
        have hxe:=HX.out
        rw [T.read_fault (HNf.out hnf) (by rw [HFin.out];exact (by omega)),HFin.out] at hxe
        obtain ⟨rfl,h7⟩:=Prod.mk.inj hxe
        obtain ⟨rfl,rfl⟩:=Prod.mk.inj h7
        clear hxe h7
        clear hw5 hat hw6
        go_wp2_with (first
          | ((with_reducible show Sn);(refine j9 rfl 3 (.tmp 41) (.tmp 40) rfl g9 3 (.int .i64 (gl : Int)) rfl rfl rfl rfl _ _ KU.out (show 3 < 4 by omega) lS ?_);intro q2 hka hga hza
             have K9a2 : Kept (Blk q2 g9 24 [.slice none 0 0,.int .i64 (a : Int),.int .i64 (b : Int),.int .i64 (gl : Int)]):=kp hka
             have KRa2:=kp (RU.out.grown hga (sne NE.out.1));have KZa2:=kp (ZU.out.grown hga (sne NE.out.2.1));have RDa2 : Kept (Rd q2 g A n c s5):=kp (Blk.grown PU.out hga (sne NE.out.2.2.1))
             have HTa2:=kp (TU.out.turned hga h7u h7);have HBa2:=kp (BU.out.grown hga hsu (fun k e => by cases e;exact LO.out.2))
             have hsa2:=HBa2.out.size;have h72 : w7.heap.size ≤ q2.heap.size:=by omega
             obtain ⟨_,hq1,hq2,hq3,_,_,_⟩:=RDa2.out.cells
             clear hka hga hza KU RU ZU TU PU WU BU hsu h7u)
          | (go_at_call 40;fail))
        refine (vJ g A n c s5 7 s6 HSE.out q2 RDa2.out).mono ?_
        rintro e q3 ⟨rfl,hk,hg⟩
        have RD3:=kp hk;have KR3':=kp (KRa2.out.grown hg (sne NE.out.2.2.2.1));have KZ3':=kp (KZa2.out.grown hg (sne NE.out.2.2.2.2.1));have HB3':=kp (HBa2.out.grown hg hsa2 (fun k e => by cases e;exact LO.out.1))
        clear hq1 hq2 hq3
        obtain ⟨_,hq1,hq2,hq3,_,_,_⟩:=hk.cells
        clear hk hg
        go_wp2_with fail
        have HKaz:=kp KR3'.out;have HKbz:=kp KZ3'.out;have HRdz:=kp RD3.out;have HBz:=kp HB3'.out
        have hszz:=HBz.out.size
        clear hq1 hq2 hq3
        apply qD (fun k => k = gr) [9] (phs ([fun W => Blk W gr 24 [.slice none 0 0,.int .i64 0,.int .i64 0,.int .i64 0],fun W => Blk W gr 24 [.slice none 0 0,.int .i64 0,.int .i64 0,.int .i64 0]])) (.is _ :: .is _ :: .is _ :: .is _ :: .is _ :: .is _ :: .is _ :: .is _ :: .is _ :: .any _ :: .is _ :: .is _ :: [])
          [[],[],[(1,64)],[(2,65)],[(3,66)],[],[(5,68)],[(6,69)],[(7,70)],[(0,63)],[(4,67)],[(8,71)]]
          [(0,63),(1,64),(2,65),(3,66),(4,67),(5,68),(6,69),(7,70),(8,71),(10,3),(11,4)] (by kernel_rfl) (by kernel_rfl) (by kernel_rfl) (by decide)
        case h0 => exact HKaz.out
        case hob =>
          refine jE rfl ?o0 (jE rfl ?o1 (jE rfl ?o2 (jE rfl ?o3 (jE rfl ?o4 (jE rfl ?o5 (jE rfl ?o6 (jE rfl ?o7 (jE rfl ?o8 (qL 0 rfl rfl ?o9 (jE rfl ?o10 (jE rfl ?o11 (xH))))))))))))
          case o0 =>
            intro p W hO hJ;change wpList _ _ _ _ _ _
            refine j4 rfl 24 (.tmp 5) rfl g5 rfl _ [.slice none 0 0,.int .i64 0,.int .i64 0,.int .i64 0] _ (hO.blk HKbz.out NE.out.2.2.2.2.2) Try.underlying24 rfl jD ?_
            go_wp2;exact j8 rfl rfl rfl hJ
          case o1 => intro p W hO hJ;change wpList _ _ _ _ _ _;go_wp2;exact j8 rfl rfl rfl hJ
          case o2 => intro p W hO hJ;rintro _ rfl;change wpList _ _ _ _ _ _;go_wp2;exact j8 rfl rfl rfl hJ
          case o3 => intro p W hO hJ;rintro _ rfl;change wpList _ _ _ _ _ _;go_wp2;exact j8 rfl rfl rfl hJ
          case o4 =>
            intro p W hO hJ;rintro _ rfl;change wpList _ _ _ _ _ _
            have hq : W.cell? ⟨g,2,none⟩ = some (.int .i64 (s6.wh : Int)):=(hO.blk HRdz.out NE.out.2.2.2.1.symm).cell 2
            go_wp2;exact j8 rfl rfl rfl hJ
          case o5 => intro p W hO hJ;change wpList _ _ _ _ _ _;go_wp2;exact j8 rfl rfl rfl hJ
          case o6 => intro p W hO hJ;rintro _ rfl;change wpList _ _ _ _ _ _;go_wp2;exact j8 rfl rfl rfl hJ
          case o7 => intro p W hO hJ;rintro _ rfl;change wpList _ _ _ _ _ _;go_wp2;exact j8 rfl rfl rfl hJ
          case o8 =>
            intro p W hO hJ;rintro _ rfl;change wpList _ _ _ _ _ _
            have hq : W.cell? ⟨g,3,none⟩ = some (.int .i64 (s6.why : Int)):=(hO.blk HRdz.out NE.out.2.2.2.1.symm).cell 3
            go_wp2;exact j8 rfl rfl rfl hJ
          case o9 =>
            intro W hO hJ;rintro _ rfl;change wpList _ _ _ _ _ _
            have hj : Blk W gr 24 [.slice none 0 0,.int .i64 0,.int .i64 0,.int .i64 0]:=hJ
            refine j5 rfl 24 (.tmp 2) (.tmp 63) rfl gr [.slice none 0 0,.int .i64 0,.int .i64 0,.int .i64 0] rfl rfl _ _ hj jD rfl (jU wtNone) ?_
            intro wa hka hga hza
            go_wp2
            exact l8 rfl (Only.of_grown hga rfl) hka
          case o10 => intro p W hO hJ;rintro _ rfl;change wpList _ _ _ _ _ _;go_wp2;exact j8 rfl rfl rfl hJ
          case o11 => intro p W hO hJ;rintro _ rfl;change wpList _ _ _ _ _ _;go_wp2;exact j8 rfl rfl rfl hJ
        case hend =>
          intro W hO hJ;rintro _ rfl;rintro _ rfl;rintro _ rfl;rintro _ rfl;rintro _ rfl;rintro _ rfl;rintro _ rfl;rintro _ rfl;rintro _ rfl;rintro _ rfl;rintro _ rfl
          simp only [ggiven,jJ,List.set]
          have HKa : Kept (Blk W gr 24 [.slice none 0 0,.int .i64 0,.int .i64 0,.int .i64 0]):=kp hJ
          have HBa : Kept (Below w.heap.size w W):=kp (HBz.out.trans (hO.below hszz (fun k hk => by subst hk;exact hgr)))
          clear hJ hO
          go_wp2_with ((with_reducible show bodyPost _ _ _ _ _ _);exact bodyPost_ret (lK (P:=Try.prog) (fn:=Try.f15) rfl _ _ gr 24 _ _ _ _ rfl rfl rfl HKa.out Try.underlying24 rfl jD) rfl ⟨wtNone,rfl,lF _ _,lD,HBa.out⟩)
      have HSE : Kept (s6 = s5):=kp (by rw [← H6.out];exact if_neg (fun h => hat h.2))
      have hw6 : s6.why = 0:=by rw [HSE.out];exact hw5
      obtain ⟨ht1,ha7,hb7,hg15⟩:=HTu.out hw6
      rw [HNt.out] at ht1
      have HRd : Kept (∀ Q : Prop,(¬ ((T.h0 bs).2.why = 0 ∧ (T.h0 bs).1 ≠ T.mark) → (T.fin bs).why = 0 → Q) → Q):=kp (fun Q h => h (HNf.out hnf) (by rw [HFin.out];exact hw6))
      have HP2 : Kept ((T.p2 bs (T.h0 bs).2).1 = tu):=kp (by rw [HE0.out,H2.out])
      have HP3 : Kept ((T.p3 bs (T.h0 bs).2).1 = a):=kp (by rw [HE0.out,H3.out])
      have HP4 : Kept ((T.p4 bs (T.h0 bs).2).1 = b):=kp (by rw [HE0.out,H4.out])
      have HP5 : Kept ((T.p5 bs (T.h0 bs).2).1 = gl):=kp (by rw [HE0.out,H5.out])
      have HPick : Kept ((∃ x ∈ tu,16 ≤ x) → d = T.none_ ∧ n = at_ ∧ why = 3):=kp (fun h => by
        have hx:=HX.out
        rw [HRd.out _ fun q1 q2 => T.read_pick q1 q2 (by rw [HP2.out];exact h)] at hx
        rw [HLb.out] at hx
        cases hx;exact ⟨rfl,rfl,rfl⟩)
      have HAlike : Kept ((∀ x ∈ tu,x < 16) → a = b → d = T.none_ ∧ n = at_ ∧ why = 1):=kp (fun h h' => by
        have hx:=HX.out
        rw [HRd.out _ fun q1 q2 => T.read_alike q1 q2 (by rw [HP2.out];rintro ⟨x,hx,h16⟩;have:=h x hx;omega) (by rw [HP3.out,HP4.out];exact h')] at hx
        rw [HLb.out] at hx
        cases hx;exact ⟨rfl,rfl,rfl⟩)
      have HFine : Kept ((∀ x ∈ tu,x < 16) → a ≠ b → d = ⟨tu.map M.bp,a,b,gl⟩ ∧ at_ = 0 ∧ why = 0):=kp (fun h h' => by
        have hx:=HX.out
        rw [HRd.out _ fun q1 q2 => T.read_fine q1 q2 (by rw [HP2.out];rintro ⟨x,hx,h16⟩;have:=h x hx;omega) (by rw [HP3.out,HP4.out];exact h')] at hx
        rw [HP2.out,HP3.out,HP4.out,HP5.out] at hx
        cases hx;exact ⟨rfl,rfl,rfl⟩)
      have hwz : ((s5.why : Int) == 0) = true:=by rw [beq_iff_eq];omega
      have hwz2 : ((s5.why : Int) != 0) = false:=by rw [bne_eq_false_iff_eq];omega
      have hatz : decide (s5.at_ < n) = false:=decide_eq_false hat
      clear hw5 hw6 hat
      go_wp2_with (first
        | ((with_reducible show Sn);(refine j9 rfl 3 (.tmp 41) (.tmp 40) rfl g9 3 (.int .i64 (gl : Int)) rfl rfl rfl rfl _ _ KU.out (show 3 < 4 by omega) lS ?_);intro q2 hka hga hza
           have K9a2 : Kept (Blk q2 g9 24 [.slice none 0 0,.int .i64 (a : Int),.int .i64 (b : Int),.int .i64 (gl : Int)]):=kp hka
           have KRa2:=kp (RU.out.grown hga (sne NE.out.1));have KZa2:=kp (ZU.out.grown hga (sne NE.out.2.1));have RDa2 : Kept (Rd q2 g A n c s5):=kp (Blk.grown PU.out hga (sne NE.out.2.2.1))
           have HTa2:=kp (TU.out.turned hga h7u h7);have HBa2:=kp (BU.out.grown hga hsu (fun k e => by cases e;exact LO.out.2))
           have hsa2:=HBa2.out.size;have h72 : w7.heap.size ≤ q2.heap.size:=by omega
           obtain ⟨_,hq1,hq2,hq3,_,_,_⟩:=RDa2.out.cells
           clear hka hga hza KU RU ZU TU PU WU BU hsu h7u)
        | fail)
      clear hq1 hq2 hq3 hwz hwz2 hatz
      have hl13:=K9a2.out.lt;have hlr13:=KRa2.out.lt
      have HTk : Kept (∀ W,Only (fun k => k = g9) q2 W → Row byteV W w7.heap.size A8 nt tu):=kp (fun W hW => HTa2.out.onlyB hW h72 (fun k hk => by omega))
      have HKk : Kept (∀ W,Only (fun k => k = g9) q2 W → Blk W gr 24 [.slice none 0 0,.int .i64 0,.int .i64 0,.int .i64 0] ∧ Blk W g5 24 [.slice none 0 0,.int .i64 0,.int .i64 0,.int .i64 0] ∧ Below w.heap.size w W):=kp (fun W hW => ⟨hW.blk KRa2.out NE.out.1,hW.blk KZa2.out NE.out.2.1,HBa2.out.trans (hW.below hsa2 (fun k hk => by subst hk;exact LO.out.2))⟩)
      go_loopw [10] (fun v10 wr => ∃ (i : Nat) (vL : Value),i ≤ nt ∧ v10 = .int .i64 i ∧ Blk wr g9 24 [vL,.int .i64 (a : Int),.int .i64 (b : Int),.int .i64 (gl : Int)] ∧ OwnR 2 pkV wr q2.heap.size 56 vL ((tu.take i).map M.bp) ∧ (∀ (j : Nat) y,j < i → tu[j]? = some y → y < 16) ∧ Only (fun k => k = g9) q2 wr) (fun v10 _ => nt - (intOf v10).toNat)
      case atStart => exact ⟨0,_,by omega,rfl,K9a2.out,OwnR.nil _ _ _ _ _,(fun _ _ h => by omega),Only.refl _ _⟩
      case round =>
        clear K9a2 RDa2 HTa2
        obtain ⟨i,vL,hi,rfl,hk9,hown,hbef,hon⟩:=hrel
        have HK9:=kp hk9;have HOw:=kp hown;have HBef:=kp hbef;have HOn:=kp hon
        obtain ⟨hkr,hkz,hbw⟩:=HKk.out wr hon
        have KRr:=kp hkr;have KZr:=kp hkz;have HBr:=kp hbw
        have hsr:=hbw.size;have hsz13:=hon.size;have hl9:=hk9.lt
        have HTr:=kp (HTk.out wr hon)
        have HTl : Kept (((tu.take i).map M.bp).length = i):=kp (by rw [List.length_map,List.length_take];have:=HNt.out;omega)
        clear hk9 hown hbef hon hkr hkz hbw
        by_cases hlt : i < nt
        · obtain ⟨ad,x,rfl,hadB,hxx,hcx⟩:=HTr.out.get hlt
          have HXx:=kp hxx
          replace hcx : wr.cell? (ad.add i) = some (.int .u8 (x : Int)):=hcx
          have hx256 : x < 256:=HTub.out x (List.mem_of_getElem? hxx)
          clear hxx
          by_cases h16 : x < 16
          rotate_left
          · obtain ⟨rfl,rfl,rfl⟩:=HPick.out ⟨x,List.mem_of_getElem? HXx.out,by omega⟩
            go_wp2_with (first
              | ((with_reducible show Sl 83);go_must (refine j4 rfl 24 (.tmp 5) rfl g5 rfl _ [.slice none 0 0,.int .i64 0,.int .i64 0,.int .i64 0] _ KZr.out Try.underlying24 rfl jD ?_))
              | ((with_reducible show Sn);(refine j5 rfl 24 (.tmp 2) (.tmp 83) rfl gr [.slice none 0 0,.int .i64 0,.int .i64 0,.int .i64 0] rfl rfl _ _ KRr.out jD rfl (jU wtNone) ?_);intro wa hka hga hza
                 have HKa:=kp hka;have HWa:=kp (HBr.out.grown hga HBr.out.size (by intro k e;cases e;exact hgr))
                 clear hka hga)
              | ((with_reducible show bodyPost _ _ _ _ _ _);exact bodyPost_ret (lK (P:=Try.prog) (fn:=Try.f15) rfl _ _ gr 24 _ _ _ _ rfl rfl rfl HKa.out Try.underlying24 rfl jD) rfl ⟨wtNone,rfl,lF _ _,lD,HWa.out⟩))
          obtain ⟨l,hl⟩ : ∃ l,(tu.take i).map M.bp = l:=⟨_,rfl⟩
          have HLb : Kept (l ++ [M.bp x] = (tu.take (i + 1)).map M.bp):=kp (by rw [← hl];exact take_bp HXx.out)
          have HD7 : Kept (decide ((7 : Int) < (x : Int)) = decide (7 < x)):=kp (by rw [decide_eq_decide];omega)
          rw [hl] at HOw HTl
          clear hl
          go_wp2
          rcases QF HOw.out HTl.out with ⟨rfl,hi0⟩ | ⟨q,rfl⟩ | ⟨q,cap,rfl,hroom⟩
          · clear hi0
            apply jH 17 (.is _ :: .is (.slice none 0 0) :: .is (.slice (some ad) nt c8) :: .is (.int .i64 (i : Int)) :: .is (.pointer (some (ad.add i))) :: .is (.int .u8 (x : Int)) :: .is (.int .i64 (x : Int)) :: .is (.int .i64 ((x % 8 : Nat) : Int)) :: .is (.slice (some ad) nt c8) :: .is (.int .i64 (i : Int)) :: .is (.pointer (some (ad.add i))) :: .is (.int .u8 (x : Int)) :: .is (.bool (decide ((7 : Int) < (x : Int)))) :: .is (.agg #[.int .i64 ((x % 8 : Nat) : Int),.bool (decide ((7 : Int) < (x : Int)))]) :: Fact.elem 56 [.int .i64 ((x % 8 : Nat) : Int),.bool (decide ((7 : Int) < (x : Int)))] :: Fact.ownN 2 pkV q2.heap.size 56 wr.heap.size (i + 1) (l ++ [M.bp x]) :: .is (.pointer (some ⟨g9,0,none⟩)) :: [])
              [[],[(0,86)],[],[],[(2,88),(3,89)],[(4,90)],[(5,91)],[(6,92)],[],[],[(8,94),(9,95)],[(10,96)],[(11,97)],[(7,93),(12,98)],[(13,99)],[(1,87),(14,100)],[],[(16,102),(15,101)]]
              [(0,86),(1,87),(2,88),(3,89),(4,90),(5,91),(6,92),(7,93),(8,94),(9,95),(10,96),(11,97),(12,98),(13,99),(14,100),(15,101),(16,102)] (by kernel_rfl) (by kernel_rfl) (by kernel_rfl) (by kernel_rfl) (by kernel_rfl)
            case hob =>
              refine ⟨?o0,?o1,?o2,?o3,?o4,?o5,?o6,?o7,?o8,?o9,?o10,?o11,?o12,?o13,?o14,?o15,?o16,trivial⟩
              case o0 => intro W hW;change wpList _ _ _ _ _ _;go_wp2;exact j0 rfl rfl rfl
              case o1 =>
                intro W hW;rintro _ rfl;change wpList _ _ _ _ _ _
                have hc : W.cell? ⟨g9,0,none⟩ = some (.slice none 0 0):=(HK9.out.below hW HK9.out.lt).cell 0
                go_wp2;exact j0 rfl rfl rfl
              case o2 => intro W hW;change wpList _ _ _ _ _ _;go_wp2;exact j0 rfl rfl rfl
              case o3 => intro W hW;change wpList _ _ _ _ _ _;go_wp2;exact j0 rfl rfl rfl
              case o4 => intro W hW;rintro _ rfl;rintro _ rfl;change wpList _ _ _ _ _ _;go_wp2;exact j0 rfl rfl rfl
              case o5 =>
                intro W hW;rintro _ rfl;change wpList _ _ _ _ _ _
                have hcw : W.cell? (ad.add i) = some (.int .u8 (x : Int)):=(hW.cell (by rw [add_block];omega)).trans hcx
                go_wp2;exact j0 rfl rfl rfl
              case o6 => intro W hW;rintro _ rfl;change wpList _ _ _ _ _ _;go_wp2;exact j0 rfl rfl rfl
              case o7 => intro W hW;rintro _ rfl;change wpList _ _ _ _ _ _;go_wp2;exact j0 rfl rfl rfl
              case o8 => intro W hW;change wpList _ _ _ _ _ _;go_wp2;exact j0 rfl rfl rfl
              case o9 => intro W hW;change wpList _ _ _ _ _ _;go_wp2;exact j0 rfl rfl rfl
              case o10 => intro W hW;rintro _ rfl;rintro _ rfl;change wpList _ _ _ _ _ _;go_wp2;exact j0 rfl rfl rfl
              case o11 =>
                intro W hW;rintro _ rfl;change wpList _ _ _ _ _ _
                have hcw : W.cell? (ad.add i) = some (.int .u8 (x : Int)):=(hW.cell (by rw [add_block];omega)).trans hcx
                go_wp2;exact j0 rfl rfl rfl
              case o12 => intro W hW;rintro _ rfl;change wpList _ _ _ _ _ _;go_wp2;exact j0 rfl rfl rfl
              case o13 => intro W hW;rintro _ rfl;rintro _ rfl;change wpList _ _ _ _ _ _;go_wp2;exact j0 rfl rfl rfl
              case o14 =>
                intro W hW;rintro _ rfl;change wpList _ _ _ _ _ _
                go_wp2;exact jG rfl rfl rfl ((Below.refl _ _).alloc (Nat.le_refl _) _) ⟨W.heap.size,rfl,Blk.new _ _ _⟩
              case o15 =>
                intro W hW;rintro _ rfl;rintro _ ⟨gn,rfl,hbk⟩;change wpList _ _ _ _ _ _
                have HBk : Kept (Blk W gn 56 ((List.range 2).map (pkV (M.bp x)))):=kp (by rw [HD7.out] at hbk;exact hbk);have hOw:=HOw.out.below hW (Nat.le_refl _)
                have hsW2:=hW.size
                clear hbk hW
                go_wp2_with (at_builtin;go_must (refine qO rfl (.tmp 87) (.tmp 100) 22 rfl q2.heap.size 56 2 _ 16 Try.underlying22 xC rfl (by omega) pkV xW _ l (M.bp x) rfl hOw (Or.inl rfl) gn 1 rfl HBk.out (by rw [HTl.out];unfold maxLen;omega) (by rw [HTl.out];omega) (by omega) ?_);intro v6 w6 hown6 hb6 hv6)
                exact jG rfl rfl rfl hb6 ⟨hown6,fun k hk => by rw [hv6] at hk;cases hk;exact hsW2⟩
              case o16 => intro W hW;change wpList _ _ _ _ _ _;go_wp2;exact j0 rfl rfl rfl
            case hend =>
              intro W hW;rintro _ rfl;rintro _ rfl;rintro _ rfl;rintro _ rfl;rintro _ rfl;rintro _ rfl;rintro _ rfl;rintro _ rfl;rintro _ rfl;rintro _ rfl;rintro _ rfl;rintro _ rfl;rintro _ rfl;rintro _ rfl;rintro _ ⟨gn,rfl,_⟩;rintro v6 ⟨hown6,hk6⟩;rintro _ rfl
              simp only [given,jJ,List.set,List.drop]
              obtain ⟨A6,c6,rfl,_⟩:=hown6.form
              have hl6 : (l ++ [M.bp x]).length = i + 1:=by rw [List.length_append,HTl.out];rfl
              rw [hl6] at hown6 hk6 ⊢
              rw [HLb.out] at hown6
              have HO6:=kp hown6;have HK6:=kp hk6
              have HK9W:=kp (HK9.out.below hW HK9.out.lt);have hsW:=hW.size
              have HOnW : Kept (Only (fun k => k = g9) q2 W):=kp (HOn.out.trans (Only.of_below hW))
              clear hown6 hk6 hl6 hW
              go_wp2_with (first
                | ((with_reducible show Sn);(refine j9 rfl 22 (.tmp 102) (.tmp 101) rfl g9 0 (.slice A6 (i + 1) c6) rfl rfl rfl rfl _ _ HK9W.out (show 0 < 4 by omega) yM ?_);intro wa hka hga hza
                   have HJa : Kept (Blk wa g9 24 [.slice A6 (i + 1) c6,.int .i64 (a : Int),.int .i64 (b : Int),.int .i64 (gl : Int)]):=kp hka
                   have HJb:=kp (HO6.out.far hga (.inr (fun e => by have:=HK6.out g9 e;omega)))
                   have HOn2 : Kept (Only (fun k => k = g9) q2 wa):=kp (HOnW.out.trans (Only.of_grown hga rfl))
                   clear hka hga)
                | fail)
              go_roundw
              case rel => exact ⟨i + 1,_,by omega,by go_num,HJa.out,HJb.out,fun j y hj hy => by
                by_cases e : j = i
                · subst e
                  rw [HXx.out] at hy
                  cases hy
                  exact h16
                · exact HBef.out j y (by omega) hy,HOn2.out⟩
              case measure => simp [intOf];omega
          · have hqb:=HOw.out.block q rfl
            apply jH 17 (.is _ :: .is (.slice (some ⟨q,0,none⟩) i i) :: .is (.slice (some ad) nt c8) :: .is (.int .i64 (i : Int)) :: .is (.pointer (some (ad.add i))) :: .is (.int .u8 (x : Int)) :: .is (.int .i64 (x : Int)) :: .is (.int .i64 ((x % 8 : Nat) : Int)) :: .is (.slice (some ad) nt c8) :: .is (.int .i64 (i : Int)) :: .is (.pointer (some (ad.add i))) :: .is (.int .u8 (x : Int)) :: .is (.bool (decide ((7 : Int) < (x : Int)))) :: .is (.agg #[.int .i64 ((x % 8 : Nat) : Int),.bool (decide ((7 : Int) < (x : Int)))]) :: Fact.elem 56 [.int .i64 ((x % 8 : Nat) : Int),.bool (decide ((7 : Int) < (x : Int)))] :: Fact.ownN 2 pkV q2.heap.size 56 wr.heap.size (i + 1) (l ++ [M.bp x]) :: .is (.pointer (some ⟨g9,0,none⟩)) :: [])
              [[],[(0,86)],[],[],[(2,88),(3,89)],[(4,90)],[(5,91)],[(6,92)],[],[],[(8,94),(9,95)],[(10,96)],[(11,97)],[(7,93),(12,98)],[(13,99)],[(1,87),(14,100)],[],[(16,102),(15,101)]]
              [(0,86),(1,87),(2,88),(3,89),(4,90),(5,91),(6,92),(7,93),(8,94),(9,95),(10,96),(11,97),(12,98),(13,99),(14,100),(15,101),(16,102)] (by kernel_rfl) (by kernel_rfl) (by kernel_rfl) (by kernel_rfl) (by kernel_rfl)
            case hob =>
              refine ⟨?o0,?o1,?o2,?o3,?o4,?o5,?o6,?o7,?o8,?o9,?o10,?o11,?o12,?o13,?o14,?o15,?o16,trivial⟩
              case o0 => intro W hW;change wpList _ _ _ _ _ _;go_wp2;exact j0 rfl rfl rfl
              case o1 =>
                intro W hW;rintro _ rfl;change wpList _ _ _ _ _ _
                have hc : W.cell? ⟨g9,0,none⟩ = some (.slice (some ⟨q,0,none⟩) i i):=(HK9.out.below hW HK9.out.lt).cell 0
                go_wp2;exact j0 rfl rfl rfl
              case o2 => intro W hW;change wpList _ _ _ _ _ _;go_wp2;exact j0 rfl rfl rfl
              case o3 => intro W hW;change wpList _ _ _ _ _ _;go_wp2;exact j0 rfl rfl rfl
              case o4 => intro W hW;rintro _ rfl;rintro _ rfl;change wpList _ _ _ _ _ _;go_wp2;exact j0 rfl rfl rfl
              case o5 =>
                intro W hW;rintro _ rfl;change wpList _ _ _ _ _ _
                have hcw : W.cell? (ad.add i) = some (.int .u8 (x : Int)):=(hW.cell (by rw [add_block];omega)).trans hcx
                go_wp2;exact j0 rfl rfl rfl
              case o6 => intro W hW;rintro _ rfl;change wpList _ _ _ _ _ _;go_wp2;exact j0 rfl rfl rfl
              case o7 => intro W hW;rintro _ rfl;change wpList _ _ _ _ _ _;go_wp2;exact j0 rfl rfl rfl
              case o8 => intro W hW;change wpList _ _ _ _ _ _;go_wp2;exact j0 rfl rfl rfl
              case o9 => intro W hW;change wpList _ _ _ _ _ _;go_wp2;exact j0 rfl rfl rfl
              case o10 => intro W hW;rintro _ rfl;rintro _ rfl;change wpList _ _ _ _ _ _;go_wp2;exact j0 rfl rfl rfl
              case o11 =>
                intro W hW;rintro _ rfl;change wpList _ _ _ _ _ _
                have hcw : W.cell? (ad.add i) = some (.int .u8 (x : Int)):=(hW.cell (by rw [add_block];omega)).trans hcx
                go_wp2;exact j0 rfl rfl rfl
              case o12 => intro W hW;rintro _ rfl;change wpList _ _ _ _ _ _;go_wp2;exact j0 rfl rfl rfl
              case o13 => intro W hW;rintro _ rfl;rintro _ rfl;change wpList _ _ _ _ _ _;go_wp2;exact j0 rfl rfl rfl
              case o14 =>
                intro W hW;rintro _ rfl;change wpList _ _ _ _ _ _
                go_wp2;exact jG rfl rfl rfl ((Below.refl _ _).alloc (Nat.le_refl _) _) ⟨W.heap.size,rfl,Blk.new _ _ _⟩
              case o15 =>
                intro W hW;rintro _ rfl;rintro _ ⟨gn,rfl,hbk⟩;change wpList _ _ _ _ _ _
                have HBk : Kept (Blk W gn 56 ((List.range 2).map (pkV (M.bp x)))):=kp (by rw [HD7.out] at hbk;exact hbk);have hOw:=HOw.out.below hW (Nat.le_refl _)
                have hsW2:=hW.size
                clear hbk hW
                go_wp2_with (at_builtin;go_must (refine qC rfl (.tmp 87) (.tmp 100) 22 rfl q2.heap.size 56 2 _ 16 Try.underlying22 xC rfl (by omega) pkV xW q i i l HTl.out (M.bp x) rfl hOw rfl gn 1 rfl HBk.out (by unfold maxLen;omega) (by omega) (by omega) ?_);intro g6 c6 w6 hown6 hb6 hg6)
                exact jG rfl rfl rfl hb6 ⟨hown6,fun k hk => by cases hk;exact Nat.le_trans hsW2 hg6⟩
              case o16 => intro W hW;change wpList _ _ _ _ _ _;go_wp2;exact j0 rfl rfl rfl
            case hend =>
              intro W hW;rintro _ rfl;rintro _ rfl;rintro _ rfl;rintro _ rfl;rintro _ rfl;rintro _ rfl;rintro _ rfl;rintro _ rfl;rintro _ rfl;rintro _ rfl;rintro _ rfl;rintro _ rfl;rintro _ rfl;rintro _ rfl;rintro _ ⟨gn,rfl,_⟩;rintro v6 ⟨hown6,hk6⟩;rintro _ rfl
              simp only [given,jJ,List.set,List.drop]
              obtain ⟨A6,c6,rfl,_⟩:=hown6.form
              have hl6 : (l ++ [M.bp x]).length = i + 1:=by rw [List.length_append,HTl.out];rfl
              rw [hl6] at hown6 hk6 ⊢
              rw [HLb.out] at hown6
              have HO6:=kp hown6;have HK6:=kp hk6
              have HK9W:=kp (HK9.out.below hW HK9.out.lt);have hsW:=hW.size
              have HOnW : Kept (Only (fun k => k = g9) q2 W):=kp (HOn.out.trans (Only.of_below hW))
              clear hown6 hk6 hl6 hW
              go_wp2_with (first
                | ((with_reducible show Sn);(refine j9 rfl 22 (.tmp 102) (.tmp 101) rfl g9 0 (.slice A6 (i + 1) c6) rfl rfl rfl rfl _ _ HK9W.out (show 0 < 4 by omega) yM ?_);intro wa hka hga hza
                   have HJa : Kept (Blk wa g9 24 [.slice A6 (i + 1) c6,.int .i64 (a : Int),.int .i64 (b : Int),.int .i64 (gl : Int)]):=kp hka
                   have HJb:=kp (HO6.out.far hga (.inr (fun e => by have:=HK6.out g9 e;omega)))
                   have HOn2 : Kept (Only (fun k => k = g9) q2 wa):=kp (HOnW.out.trans (Only.of_grown hga rfl))
                   clear hka hga)
                | fail)
              go_roundw
              case rel => exact ⟨i + 1,_,by omega,by go_num,HJa.out,HJb.out,fun j y hj hy => by
                by_cases e : j = i
                · subst e
                  rw [HXx.out] at hy
                  cases hy
                  exact h16
                · exact HBef.out j y (by omega) hy,HOn2.out⟩
              case measure => simp [intOf];omega
          · have hqb:=HOw.out.block q rfl
            have hcm9:=ownR_cap HOw.out
            have HQ9 : Kept (q ≠ g9):=kp (by have h1:=hqb.1;omega)
            apply q7 (fun k => k = q ∨ k = g9) [15,17] [0,1,2,3,4,5,6,7,8,9,10,11,12,13,14] (phs ([(fun W => Blk W g9 24 [.slice (some ⟨q,0,none⟩) i cap,.int .i64 (a : Int),.int .i64 (b : Int),.int .i64 (gl : Int)] ∧ OwnR 2 pkV W q2.heap.size 56 (.slice (some ⟨q,0,none⟩) i cap) l),(fun W => Blk W g9 24 [.slice (some ⟨q,0,none⟩) i cap,.int .i64 (a : Int),.int .i64 (b : Int),.int .i64 (gl : Int)] ∧ OwnR 2 pkV W q2.heap.size 56 (.slice (some ⟨q,0,none⟩) (i + 1) cap) (l ++ [M.bp x])),(fun W => Blk W g9 24 [.slice (some ⟨q,0,none⟩) (i + 1) cap,.int .i64 (a : Int),.int .i64 (b : Int),.int .i64 (gl : Int)] ∧ OwnR 2 pkV W q2.heap.size 56 (.slice (some ⟨q,0,none⟩) (i + 1) cap) (l ++ [M.bp x]))] : List (World → Prop))) (.is _ :: .is (.slice (some ⟨q,0,none⟩) i cap) :: .is (.slice (some ad) nt c8) :: .is (.int .i64 (i : Int)) :: .is (.pointer (some (ad.add i))) :: .is (.int .u8 (x : Int)) :: .is (.int .i64 (x : Int)) :: .is (.int .i64 ((x % 8 : Nat) : Int)) :: .is (.slice (some ad) nt c8) :: .is (.int .i64 (i : Int)) :: .is (.pointer (some (ad.add i))) :: .is (.int .u8 (x : Int)) :: .is (.bool (decide ((7 : Int) < (x : Int)))) :: .is (.agg #[.int .i64 ((x % 8 : Nat) : Int),.bool (decide ((7 : Int) < (x : Int)))]) :: GFact.elem _ 56 [.int .i64 ((x % 8 : Nat) : Int),.bool (decide ((7 : Int) < (x : Int)))] 0 :: .is (.slice (some ⟨q,0,none⟩) (i + 1) cap) :: .is (.pointer (some ⟨g9,0,none⟩)) :: .any _ :: [])
              [[],[(0,86)],[],[],[(2,88),(3,89)],[(4,90)],[(5,91)],[(6,92)],[],[],[(8,94),(9,95)],[(10,96)],[(11,97)],[(7,93),(12,98)],[(13,99)],[(1,87),(14,100)],[],[(16,102),(15,101)]]
              [(0,86),(1,87),(2,88),(3,89),(4,90),(5,91),(6,92),(7,93),(8,94),(9,95),(10,96),(11,97),(12,98),(13,99),(14,100),(15,101),(16,102)] (by kernel_rfl) (by kernel_rfl) (by kernel_rfl) (by kernel_rfl) (by decide)
            case h0 => exact ⟨HK9.out,HOw.out⟩
            case hob =>
              refine jB rfl rfl ?o0 (jB rfl rfl ?o1 (jB rfl rfl ?o2 (jB rfl rfl ?o3 (jB rfl rfl ?o4 (jB rfl rfl ?o5 (jB rfl rfl ?o6 (jB rfl rfl ?o7 (jB rfl rfl ?o8 (jB rfl rfl ?o9 (jB rfl rfl ?o10 (jB rfl rfl ?o11 (jB rfl rfl ?o12 (jB rfl rfl ?o13 (jB rfl rfl ?o14 (lQ 0 rfl rfl ?o15 (lI rfl rfl ?o16 (lQ 1 rfl rfl ?o17 (xJ))))))))))))))))))
              case o0 => intro W hO hJ;change wpList _ _ _ _ _ _;go_wp2;exact j8 rfl rfl rfl hJ
              case o1 =>
                intro W hO hJ;rintro _ rfl;change wpList _ _ _ _ _ _
                have hc : W.cell? ⟨g9,0,none⟩ = some (.slice (some ⟨q,0,none⟩) i cap):=hJ.1.cell 0
                go_wp2;exact j8 rfl rfl rfl hJ
              case o2 => intro W hO hJ;change wpList _ _ _ _ _ _;go_wp2;exact j8 rfl rfl rfl hJ
              case o3 => intro W hO hJ;change wpList _ _ _ _ _ _;go_wp2;exact j8 rfl rfl rfl hJ
              case o4 => intro W hO hJ;rintro _ rfl;rintro _ rfl;change wpList _ _ _ _ _ _;go_wp2;exact j8 rfl rfl rfl hJ
              case o5 =>
                intro W hO hJ;rintro _ rfl;change wpList _ _ _ _ _ _
                have hcw : W.cell? (ad.add i) = some (.int .u8 (x : Int)):=(hO.cell (by rw [add_block];omega) (by rw [add_block];omega)).trans hcx
                go_wp2;exact j8 rfl rfl rfl hJ
              case o6 => intro W hO hJ;rintro _ rfl;change wpList _ _ _ _ _ _;go_wp2;exact j8 rfl rfl rfl hJ
              case o7 => intro W hO hJ;rintro _ rfl;change wpList _ _ _ _ _ _;go_wp2;exact j8 rfl rfl rfl hJ
              case o8 => intro W hO hJ;change wpList _ _ _ _ _ _;go_wp2;exact j8 rfl rfl rfl hJ
              case o9 => intro W hO hJ;change wpList _ _ _ _ _ _;go_wp2;exact j8 rfl rfl rfl hJ
              case o10 => intro W hO hJ;rintro _ rfl;rintro _ rfl;change wpList _ _ _ _ _ _;go_wp2;exact j8 rfl rfl rfl hJ
              case o11 =>
                intro W hO hJ;rintro _ rfl;change wpList _ _ _ _ _ _
                have hcw : W.cell? (ad.add i) = some (.int .u8 (x : Int)):=(hO.cell (by rw [add_block];omega) (by rw [add_block];omega)).trans hcx
                go_wp2;exact j8 rfl rfl rfl hJ
              case o12 => intro W hO hJ;rintro _ rfl;change wpList _ _ _ _ _ _;go_wp2;exact j8 rfl rfl rfl hJ
              case o13 => intro W hO hJ;rintro _ rfl;rintro _ rfl;change wpList _ _ _ _ _ _;go_wp2;exact j8 rfl rfl rfl hJ
              case o14 =>
                intro W hO hJ;rintro _ rfl;change wpList _ _ _ _ _ _
                have hng : ¬ (W.heap.size = q ∨ W.heap.size = g9):=by
                  have h1:=hJ.1.lt
                  have h2:=(hJ.2.block q rfl).2
                  omega
                have hbl : Below W.heap.size W (W.alloc (.cells ([.int .i64 ((x % 8 : Nat) : Int),.bool (decide ((7 : Int) < (x : Int)))] : List Value).toArray 56)):=(Below.refl _ _).alloc (Nat.le_refl _) _
                have hJ0 : (fun W => Blk W g9 24 [.slice (some ⟨q,0,none⟩) i cap,.int .i64 (a : Int),.int .i64 (b : Int),.int .i64 (gl : Int)] ∧ OwnR 2 pkV W q2.heap.size 56 (.slice (some ⟨q,0,none⟩) i cap) l) (W.alloc (.cells ([.int .i64 ((x % 8 : Nat) : Int),.bool (decide ((7 : Int) < (x : Int)))] : List Value).toArray 56)):=⟨hJ.1.alloc _,hJ.2.below hbl (Nat.le_refl _)⟩
                go_wp2;exact lP rfl rfl rfl (Only.of_below hbl) hJ0 ⟨W.heap.size,rfl,Blk.new _ _ _,hng,Nat.zero_le _⟩
              case o15 =>
                intro W hO hJ;rintro _ rfl;rintro _ ⟨gn,rfl,hbk,hng,_⟩;change wpList _ _ _ _ _ _
                have hJ1 : (fun W => Blk W g9 24 [.slice (some ⟨q,0,none⟩) i cap,.int .i64 (a : Int),.int .i64 (b : Int),.int .i64 (gl : Int)] ∧ OwnR 2 pkV W q2.heap.size 56 (.slice (some ⟨q,0,none⟩) i cap) l) W:=hJ
                have HJ1:=kp hJ1.1;have HBk : Kept (Blk W gn 56 ((List.range 2).map (pkV (M.bp x)))):=kp (by rw [HD7.out] at hbk;exact hbk);have hOw:=hJ1.2
                clear hJ hJ1 hbk hO
                go_wp2_with (at_builtin;go_must (refine jZ rfl (.tmp 87) (.tmp 100) 22 rfl q2.heap.size 56 2 _ 16 Try.underlying22 xC rfl (by omega) pkV xW q cap i l HTl.out (M.bp x) rfl hOw hroom gn 1 rfl HBk.out (by omega) ?_);intro w6 hown6 hgr6)
                exact lP rfl rfl rfl (Only.of_grown hgr6 (.inl rfl)) ⟨HJ1.out.grown hgr6 (sne HQ9.out.symm),hown6⟩ rfl
              case o16 => intro p W hO hJ;change wpList _ _ _ _ _ _;go_wp2;exact j8 rfl rfl rfl hJ
              case o17 =>
                intro W hO hJ;rintro _ rfl;rintro _ rfl;change wpList _ _ _ _ _ _
                have hJ1 : (fun W => Blk W g9 24 [.slice (some ⟨q,0,none⟩) i cap,.int .i64 (a : Int),.int .i64 (b : Int),.int .i64 (gl : Int)] ∧ OwnR 2 pkV W q2.heap.size 56 (.slice (some ⟨q,0,none⟩) (i + 1) cap) (l ++ [M.bp x])) W:=hJ
                refine j9 rfl 22 (.tmp 102) (.tmp 101) rfl g9 0 (.slice (some ⟨q,0,none⟩) (i + 1) cap) rfl rfl rfl rfl _ _ hJ1.1 (show 0 < 4 by omega) yM ?_
                intro wa hka hga hza
                have hj2 : (fun W => Blk W g9 24 [.slice (some ⟨q,0,none⟩) (i + 1) cap,.int .i64 (a : Int),.int .i64 (b : Int),.int .i64 (gl : Int)] ∧ OwnR 2 pkV W q2.heap.size 56 (.slice (some ⟨q,0,none⟩) (i + 1) cap) (l ++ [M.bp x])) wa:=⟨hka,hJ1.2.far hga (.inr (sne HQ9.out))⟩
                go_wp2
                exact l8 rfl (Only.of_grown hga (.inr rfl)) hj2
            case hend =>
              intro W hO hJ;rintro _ rfl;rintro _ rfl;rintro _ rfl;rintro _ rfl;rintro _ rfl;rintro _ rfl;rintro _ rfl;rintro _ rfl;rintro _ rfl;rintro _ rfl;rintro _ rfl;rintro _ rfl;rintro _ rfl;rintro _ rfl;rintro _ ⟨gn,rfl,_,_,_⟩;rintro _ rfl;rintro _ rfl
              simp only [ggiven,jJ,List.set]
              have hJ2 : (fun W => Blk W g9 24 [.slice (some ⟨q,0,none⟩) (i + 1) cap,.int .i64 (a : Int),.int .i64 (b : Int),.int .i64 (gl : Int)] ∧ OwnR 2 pkV W q2.heap.size 56 (.slice (some ⟨q,0,none⟩) (i + 1) cap) (l ++ [M.bp x])) W:=hJ
              have HJa:=kp hJ2.1;have HJb:=kp hJ2.2
              have HOn2 : Kept (Only (fun k => k = g9) q2 W):=kp (only_low HOn.out (XD (G':=fun k => k = g9) (L:=q2.heap.size) hO fun k (hk : k = q ∨ k = g9) (hl : k < q2.heap.size) => by
                rcases hk with hk | hk
                · exact absurd hl (by rw [hk];exact Nat.not_lt.2 hqb.1)
                · exact hk))
              rw [HLb.out] at HJb
              clear hJ hJ2 hO
              go_wp2
              go_roundw
              case rel => exact ⟨i + 1,_,by omega,by go_num,HJa.out,HJb.out,fun j y hj hy => by
                by_cases e : j = i
                · subst e
                  rw [HXx.out] at hy
                  cases hy
                  exact h16
                · exact HBef.out j y (by omega) hy,HOn2.out⟩
              case measure => simp [intOf];omega
        · have hii : i = nt:=by omega
          subst hii
          have H16 : Kept (∀ x ∈ tu,x < 16):=kp (fun x hx => by
            obtain ⟨j,hj⟩:=List.getElem?_of_mem hx
            exact HBef.out j x (by have:=(List.getElem?_eq_some_iff.1 hj).1;have:=HNt.out;omega) hj)
          obtain ⟨AL,cL,hvL,hlcL,hcmL,_⟩:=HOw.out.form
          rw [HTl.out] at hvL hlcL
          subst hvL
          have HTk2 : Kept ((tu.take i).map M.bp = tu.map M.bp):=kp (by rw [List.take_of_length_le (by rw [HNt.out];exact Nat.le_refl _)])
          rw [HTk2.out] at HOw
          have HLc : Kept (i ≤ cL ∧ cL ≤ maxLen):=kp ⟨hlcL,hcmL⟩
          obtain ⟨hd0,hd1,hd2,hd3⟩:=jS (x:=⟨AL,i,cL,[],(a : Int),(b : Int),(gl : Int)⟩) HK9.out
          simp only at hd0 hd1 hd2 hd3
          clear hlt hlcL hcmL
          by_cases hab : a = b
          · obtain ⟨rfl,rfl,rfl⟩:=HAlike.out H16.out hab
            have hq : ((a : Int) == (b : Int)) = true:=by rw [beq_iff_eq];omega
            clear hab
            go_wp2_with (first
              | ((with_reducible show Sl 108);go_must (refine j4 rfl 24 (.tmp 5) rfl g5 rfl _ [.slice none 0 0,.int .i64 0,.int .i64 0,.int .i64 0] _ KZr.out Try.underlying24 rfl jD ?_))
              | ((with_reducible show Sn);(refine j5 rfl 24 (.tmp 2) (.tmp 108) rfl gr [.slice none 0 0,.int .i64 0,.int .i64 0,.int .i64 0] rfl rfl _ _ KRr.out jD rfl (jU wtNone) ?_);intro wa hka hga hza
                 have HKa:=kp hka;have HWa:=kp (HBr.out.grown hga HBr.out.size (by intro k e;cases e;exact hgr))
                 clear hka hga)
              | ((with_reducible show bodyPost _ _ _ _ _ _);exact bodyPost_ret (lK (P:=Try.prog) (fn:=Try.f15) rfl _ _ gr 24 _ _ _ _ rfl rfl rfl HKa.out Try.underlying24 rfl jD) rfl ⟨wtNone,rfl,lF _ _,lD,HWa.out⟩))
          · obtain ⟨rfl,rfl,rfl⟩:=HFine.out H16.out hab
            have hq : ((a : Int) == (b : Int)) = false:=by rw [beq_eq_false_iff_ne];omega
            clear hab
            go_wp2_with (first
              | ((with_reducible show Sl 111);go_must (refine j4 rfl 24 (.tmp 9) rfl g9 rfl _ [.slice AL i cL,.int .i64 (a : Int),.int .i64 (b : Int),.int .i64 (gl : Int)] _ HK9.out Try.underlying24 rfl jD ?_))
              | ((with_reducible show Sn);(refine j5 rfl 24 (.tmp 2) (.tmp 111) rfl gr [.slice AL i cL,.int .i64 (a : Int),.int .i64 (b : Int),.int .i64 (gl : Int)] rfl rfl _ _ KRr.out jD rfl (jU ⟨AL,i,cL,[],(a : Int),(b : Int),(gl : Int)⟩) ?_);intro wa hka hga hza
                 have HKa:=kp hka;have HWa:=kp (HBr.out.grown hga hsr (by intro k e;cases e;exact hgr));have HOa:=kp (HOw.out.far hga (XB HOw.out hlr13))
                 clear hka hga)
              | ((with_reducible show bodyPost _ _ _ _ _ _);exact bodyPost_ret (lK (P:=Try.prog) (fn:=Try.f15) rfl _ _ gr 24 _ _ _ _ rfl rfl rfl HKa.out Try.underlying24 rfl jD) rfl ⟨⟨AL,i,cL,tu.map M.bp,(a : Int),(b : Int),(gl : Int)⟩,rfl,⟨⟨HOa.out.recs,fun x hx => by
                  obtain ⟨y,_,rfl⟩:=List.mem_map.1 hx
                  obtain ⟨h1,h2⟩:=M.bp_ok y
                  unfold I64;omega⟩,HLc.out.1,HLc.out.2,HI7.out.1,HI7.out.2.1,HI7.out.2.2⟩,⟨rfl,rfl,rfl,rfl⟩,HWa.out⟩))
    · have hte:=T.mark_not (HLong.out hw1).2 hmk
      have hwz : ((s1.why : Int) == 0) = true:=by rw [beq_iff_eq];omega
      obtain ⟨rfl,rfl,rfl⟩:=HForm.out hw1 hmk
      clear hw1 hmk
      go_wp2_with (first
        | ((with_reducible show Sl 27);go_must (refine j4 rfl 24 (.tmp 5) rfl g5 rfl _ [.slice none 0 0,.int .i64 0,.int .i64 0,.int .i64 0] _ KZ5.out Try.underlying24 rfl jD ?_))
        | ((with_reducible show Sn);(refine j5 rfl 24 (.tmp 2) (.tmp 27) rfl gr [.slice none 0 0,.int .i64 0,.int .i64 0,.int .i64 0] rfl rfl _ _ KR5.out jD rfl (jU wtNone) ?_);intro wa hka hga hza
           have HKa:=kp hka;have HWa:=kp (HB5.out.grown hga HB5.out.size (by intro k e;cases e;exact hgr))
           clear hka hga)
        | ((with_reducible show bodyPost _ _ _ _ _ _);exact bodyPost_ret (lK (P:=Try.prog) (fn:=Try.f15) rfl _ _ gr 24 _ _ _ _ rfl rfl rfl HKa.out Try.underlying24 rfl jD) rfl ⟨wtNone,rfl,lF _ _,lD,HWa.out⟩))
  · have hnf : s1.why = 0 → out = T.mark:=fun h => absurd h hw1
    have hwz : ((s1.why : Int) == 0) = false:=by rw [beq_eq_false_iff_ne];omega
    clear hw1
    go_wp2_with (go_at_call 39;fail)
    clear hwz
    refine (zO g w.heap.size A n c bs s1 HO1.out 4096 x1 t1 N1.out w5 RD5.out RW5.out HB.out hnc HCm.out (by omega) (by omega)).mono ?_
    rintro e w6 ⟨rfl,hk,hg,hr⟩
    have RD6:=kp hk;have RW6:=kp hr;have KR6:=kp (KR5.out.grown hg (by intro e;cases e;omega));have KZ6:=kp (KZ5.out.grown hg (by intro e;cases e;omega));have HB6:=kp (HB5.out.grown hg hs5 (by intro k e;cases e;omega))
    have hs6:=HB6.out.size;have hz56:=hg.size
    clear hk hg hr hq0 hq1 hq2 hq3 hcv
    go_wp2_with fail
    refine (rd_raw g w.heap.size A n c bs t1 O1.out (x1 : Int) (by omega) tu s2 N2.out w6 RD6.out RW6.out (by omega) (by omega) (by omega)).mono ?_
    rintro e w7 ⟨v8,rfl,hown,hk,hg,hr⟩
    obtain ⟨A8,c8,rfl,hc8,hm8,hr8⟩:=Own.readsN hown rfl
    have HT7:=kp hr8;have RD7:=kp hk;have RW7:=kp hr;have KR7:=kp (KR6.out.grown hg (by intro e;cases e;omega));have KZ7:=kp (KZ6.out.grown hg (by intro e;cases e;omega));have HB7:=kp (HB6.out.grown hg hs6 (by intro k e;cases e;omega));have HBo:=kp hown.block
    have hs7:=HB7.out.size;have hz67:=hg.size
    have hm88 : c8 ≤ 9223372036854775807:=by unfold maxLen at hm8;omega
    clear hown hk hg hr hm8 hr8
    obtain ⟨nt,hnt⟩ : ∃ nt,tu.length = nt:=⟨_,rfl⟩
    rw [hnt] at HT7 HBo ⊢
    have HNt:=kp hnt
    have HAd : Kept (∀ ad,A8 = some ad → ad.block ≠ g):=kp (fun ad e => by subst e;have:=(HBo.out ad.block rfl).1;omega)
    clear hnt HBo
    go_wp2_with (first
      | ((with_reducible show Sl 9);go_must (refine j7 rfl 24 rfl _ lW ?_);intro g9 w8 hg9 hk8 hw8
         have K98:=kp hk8;have KR8:=kp (KR7.out.below hw8 KR7.out.lt);have KZ8:=kp (KZ7.out.below hw8 KZ7.out.lt);have RD8:=kp (Blk.below RD7.out hw8 RD7.out.lt);have RW8:=kp (RW7.out.below (hw8.mono (by omega)));have HT8:=kp (HT7.out.below hw8);have HB8:=kp (HB7.out.trans (hw8.mono hs7))
         have hs8:=HB8.out.size;have hz78:=hw8.size;have hl98:=hk8.lt
         have hl7r:=KR7.out.lt;have hl7z:=KZ7.out.lt;have hl7g:=RD7.out.lt
         clear hk8 hw8)
      | ((with_reducible show Sn);(refine j5 rfl 24 (.tmp 9) (.tmp 32) rfl g9 [.slice none 0 0,.int .i64 0,.int .i64 0,.int .i64 0] rfl rfl _ _ K98.out jD rfl (jU wtNone) ?_);intro w9 hk9 hgg9 hz9
         have K99:=kp hk9;have KR9:=kp (KR8.out.grown hgg9 (by intro e;cases e;omega));have KZ9:=kp (KZ8.out.grown hgg9 (by intro e;cases e;omega));have RD9:=kp (Blk.grown RD8.out hgg9 (by intro e;cases e;omega));have RW9:=kp (RW8.out.turned hgg9 (by omega) (by omega));have HT9:=kp (HT8.out.turned hgg9 (by omega) (by omega));have HB9:=kp (HB8.out.grown hgg9 hs8 (by intro k e;cases e;omega))
         have hs9:=HB9.out.size
         have NE : Kept (gr ≠ g9 ∧ g5 ≠ g9 ∧ g ≠ g9 ∧ gr ≠ g ∧ g5 ≠ g ∧ g5 ≠ gr):=kp ⟨by omega,by omega,by omega,by omega,by omega,by omega⟩
         have LO : Kept (w.heap.size ≤ g ∧ w.heap.size ≤ g9):=kp ⟨by omega,by omega⟩
         have h7 : w7.heap.size ≤ g9:=by omega
         have h79 : w7.heap.size ≤ w9.heap.size:=by omega
         clear hk9 hgg9 hs1 hl1 hs2 hl2 hs3 hs4 hlg hlr3 hlz3 hz45 hlg5 hs5 hs6 hz56 hz67 hs7 hs8 hz78 hl98 hl7r hl7z hl7g hz9 hg9 hg5 hg4 hz3)
      | (go_at_call 39;fail))
    refine (zO g w.heap.size A n c bs s2 O2.out 7 a s3 N3.out w9 RD9.out RW9.out HB.out hnc HCm.out LO.out.1 hs9).mono ?_
    rintro e u0 ⟨rfl,hk,hg,hr⟩
    have hzu:=hg.size
    have KU:=kp (K99.out.grown hg (sne NE.out.2.2.1.symm));have RU:=kp (KR9.out.grown hg (sne NE.out.2.2.2.1));have ZU:=kp (KZ9.out.grown hg (sne NE.out.2.2.2.2.1));have TU:=kp (HT9.out.grown hg h79 (fun a _ e e2 => by cases e2;exact HAd.out a e rfl));have PU:=kp hk;have WU:=kp hr;have BU:=kp (HB9.out.grown hg hs9 (fun k e => by cases e;exact LO.out.1))
    have hsu:=BU.out.size
    have h7u : w7.heap.size ≤ u0.heap.size:=Nat.le_trans h79 hzu
    have hcz : u0.cell? ⟨g9,1,none⟩ = some (.int .i64 0):=KU.out.cell 1
    have hfz:=KU.out.frozen 1
    clear hk hg hr hzu
    go_wp2_with fail
    have GS : Kept (u0.grownBy (u0.setCell ⟨g9,1,none⟩ (.int .i64 (a : Int))) (some g9)):=kp (jN (jK _ _))
    have K9a0 : Kept (Blk (u0.setCell ⟨g9,1,none⟩ (.int .i64 (a : Int))) g9 24 [.slice none 0 0,.int .i64 (a : Int),.int .i64 0,.int .i64 0]):=kp (KU.out.set 1 _)
    have KRa0:=kp (RU.out.grown GS.out (sne NE.out.1));have KZa0:=kp (ZU.out.grown GS.out (sne NE.out.2.1));have RDa0 : Kept (Rd _ g A n c s3):=kp (Blk.grown PU.out GS.out (sne NE.out.2.2.1))
    have HTa0:=kp (TU.out.turned GS.out h7u h7);have RWa0:=kp (WU.out.turned GS.out hsu LO.out.2);have HBa0:=kp (BU.out.grown GS.out hsu (fun k e => by cases e;exact LO.out.2))
    have hsa0:=HBa0.out.size
    have h7a0 : w7.heap.size ≤ (u0.setCell ⟨g9,1,none⟩ (.int .i64 (a : Int))).heap.size:=Nat.le_trans h7u GS.out.size
    generalize u0.setCell ⟨g9,1,none⟩ (.int .i64 (a : Int)) = q0 at *
    clear hcz hfz KU RU ZU TU PU WU BU GS hsu h7u hs9 h79
    refine (zO g w.heap.size A n c bs s3 O3.out 7 b s4 N4.out q0 RDa0.out RWa0.out HB.out hnc HCm.out LO.out.1 hsa0).mono ?_
    rintro e u1 ⟨rfl,hk,hg,hr⟩
    have hzu:=hg.size
    have KU:=kp (K9a0.out.grown hg (sne NE.out.2.2.1.symm));have RU:=kp (KRa0.out.grown hg (sne NE.out.2.2.2.1));have ZU:=kp (KZa0.out.grown hg (sne NE.out.2.2.2.2.1));have TU:=kp (HTa0.out.grown hg h7a0 (fun a _ e e2 => by cases e2;exact HAd.out a e rfl));have PU:=kp hk;have WU:=kp hr;have BU:=kp (HBa0.out.grown hg hsa0 (fun k e => by cases e;exact LO.out.1))
    have hsu:=BU.out.size
    have h7u : w7.heap.size ≤ u1.heap.size:=Nat.le_trans h7a0 hzu
    have hcz : u1.cell? ⟨g9,2,none⟩ = some (.int .i64 0):=KU.out.cell 2
    have hfz:=KU.out.frozen 2
    clear hk hg hr hzu
    go_wp2_with fail
    have GS : Kept (u1.grownBy (u1.setCell ⟨g9,2,none⟩ (.int .i64 (b : Int))) (some g9)):=kp (jN (jK _ _))
    have K9a1 : Kept (Blk (u1.setCell ⟨g9,2,none⟩ (.int .i64 (b : Int))) g9 24 [.slice none 0 0,.int .i64 (a : Int),.int .i64 (b : Int),.int .i64 0]):=kp (KU.out.set 2 _)
    have KRa1:=kp (RU.out.grown GS.out (sne NE.out.1));have KZa1:=kp (ZU.out.grown GS.out (sne NE.out.2.1));have RDa1 : Kept (Rd _ g A n c s4):=kp (Blk.grown PU.out GS.out (sne NE.out.2.2.1))
    have HTa1:=kp (TU.out.turned GS.out h7u h7);have RWa1:=kp (WU.out.turned GS.out hsu LO.out.2);have HBa1:=kp (BU.out.grown GS.out hsu (fun k e => by cases e;exact LO.out.2))
    have hsa1:=HBa1.out.size
    have h7a1 : w7.heap.size ≤ (u1.setCell ⟨g9,2,none⟩ (.int .i64 (b : Int))).heap.size:=Nat.le_trans h7u GS.out.size
    generalize u1.setCell ⟨g9,2,none⟩ (.int .i64 (b : Int)) = q1 at *
    clear hcz hfz KU RU ZU TU PU WU BU GS hsu h7u hsa0 h7a0
    refine (zO g w.heap.size A n c bs s4 O4.out 15 gl s5 N5.out q1 RDa1.out RWa1.out HB.out hnc HCm.out LO.out.1 hsa1).mono ?_
    rintro e u2 ⟨rfl,hk,hg,hr⟩
    have hzu:=hg.size
    have KU:=kp (K9a1.out.grown hg (sne NE.out.2.2.1.symm));have RU:=kp (KRa1.out.grown hg (sne NE.out.2.2.2.1));have ZU:=kp (KZa1.out.grown hg (sne NE.out.2.2.2.2.1));have TU:=kp (HTa1.out.grown hg h7a1 (fun a _ e e2 => by cases e2;exact HAd.out a e rfl));have PU:=kp hk;have WU:=kp hr;have BU:=kp (HBa1.out.grown hg hsa1 (fun k e => by cases e;exact LO.out.1))
    have hsu:=BU.out.size
    have h7u : w7.heap.size ≤ u2.heap.size:=Nat.le_trans h7a1 hzu
    clear hk hg hr hzu
    by_cases hw5 : s5.why = 0
    rotate_left
    · have HSE : Kept (s6 = s5):=kp (by rw [← H6.out];exact if_neg (fun h => hw5 h.1))
      have hwz : ((s5.why : Int) == 0) = false:=by rw [beq_eq_false_iff_ne];omega
      have hwz2 : ((s5.why : Int) != 0) = true:=by rw [bne_iff_ne];omega
      have hxe:=HX.out
      rw [T.read_fault (HNf.out hnf) (by rw [HFin.out];exact (by rw [HSE.out];exact hw5)),HFin.out] at hxe
      obtain ⟨rfl,h7⟩:=Prod.mk.inj hxe
      obtain ⟨rfl,rfl⟩:=Prod.mk.inj h7
      clear hxe h7
      have hse:=HSE.out.symm
      subst hse
      clear hw5
      go_wp2_with (first
        | ((with_reducible show Sn);(refine j9 rfl 3 (.tmp 41) (.tmp 40) rfl g9 3 (.int .i64 (gl : Int)) rfl rfl rfl rfl _ _ KU.out (show 3 < 4 by omega) lS ?_);intro q2 hka hga hza
           have K9a2 : Kept (Blk q2 g9 24 [.slice none 0 0,.int .i64 (a : Int),.int .i64 (b : Int),.int .i64 (gl : Int)]):=kp hka
           have KRa2:=kp (RU.out.grown hga (sne NE.out.1));have KZa2:=kp (ZU.out.grown hga (sne NE.out.2.1));have RDa2 : Kept (Rd q2 g A n c s5):=kp (Blk.grown PU.out hga (sne NE.out.2.2.1))
           have HTa2:=kp (TU.out.turned hga h7u h7);have HBa2:=kp (BU.out.grown hga hsu (fun k e => by cases e;exact LO.out.2))
           have hsa2:=HBa2.out.size;have h72 : w7.heap.size ≤ q2.heap.size:=by omega
           obtain ⟨_,hq1,hq2,hq3,_,_,_⟩:=RDa2.out.cells
           clear hka hga hza KU RU ZU TU PU WU BU hsu h7u)
        | fail)
      have HKaz:=kp KRa2.out;have HKbz:=kp KZa2.out;have HRdz:=kp RDa2.out;have HBz:=kp HBa2.out
      have hszz:=HBz.out.size
      clear hq1 hq2 hq3
      apply qD (fun k => k = gr) [9] (phs ([fun W => Blk W gr 24 [.slice none 0 0,.int .i64 0,.int .i64 0,.int .i64 0],fun W => Blk W gr 24 [.slice none 0 0,.int .i64 0,.int .i64 0,.int .i64 0]])) (.is _ :: .is _ :: .is _ :: .is _ :: .is _ :: .is _ :: .is _ :: .is _ :: .is _ :: .any _ :: .is _ :: .is _ :: [])
        [[],[],[(1,64)],[(2,65)],[(3,66)],[],[(5,68)],[(6,69)],[(7,70)],[(0,63)],[(4,67)],[(8,71)]]
        [(0,63),(1,64),(2,65),(3,66),(4,67),(5,68),(6,69),(7,70),(8,71),(10,3),(11,4)] (by kernel_rfl) (by kernel_rfl) (by kernel_rfl) (by decide)
      case h0 => exact HKaz.out
      case hob =>
        refine jE rfl ?o0 (jE rfl ?o1 (jE rfl ?o2 (jE rfl ?o3 (jE rfl ?o4 (jE rfl ?o5 (jE rfl ?o6 (jE rfl ?o7 (jE rfl ?o8 (qL 0 rfl rfl ?o9 (jE rfl ?o10 (jE rfl ?o11 (xH))))))))))))
        case o0 =>
          intro p W hO hJ;change wpList _ _ _ _ _ _
          refine j4 rfl 24 (.tmp 5) rfl g5 rfl _ [.slice none 0 0,.int .i64 0,.int .i64 0,.int .i64 0] _ (hO.blk HKbz.out NE.out.2.2.2.2.2) Try.underlying24 rfl jD ?_
          go_wp2;exact j8 rfl rfl rfl hJ
        case o1 => intro p W hO hJ;change wpList _ _ _ _ _ _;go_wp2;exact j8 rfl rfl rfl hJ
        case o2 => intro p W hO hJ;rintro _ rfl;change wpList _ _ _ _ _ _;go_wp2;exact j8 rfl rfl rfl hJ
        case o3 => intro p W hO hJ;rintro _ rfl;change wpList _ _ _ _ _ _;go_wp2;exact j8 rfl rfl rfl hJ
        case o4 =>
          intro p W hO hJ;rintro _ rfl;change wpList _ _ _ _ _ _
          have hq : W.cell? ⟨g,2,none⟩ = some (.int .i64 (s5.wh : Int)):=(hO.blk HRdz.out NE.out.2.2.2.1.symm).cell 2
          go_wp2;exact j8 rfl rfl rfl hJ
        case o5 => intro p W hO hJ;change wpList _ _ _ _ _ _;go_wp2;exact j8 rfl rfl rfl hJ
        case o6 => intro p W hO hJ;rintro _ rfl;change wpList _ _ _ _ _ _;go_wp2;exact j8 rfl rfl rfl hJ
        case o7 => intro p W hO hJ;rintro _ rfl;change wpList _ _ _ _ _ _;go_wp2;exact j8 rfl rfl rfl hJ
        case o8 =>
          intro p W hO hJ;rintro _ rfl;change wpList _ _ _ _ _ _
          have hq : W.cell? ⟨g,3,none⟩ = some (.int .i64 (s5.why : Int)):=(hO.blk HRdz.out NE.out.2.2.2.1.symm).cell 3
          go_wp2;exact j8 rfl rfl rfl hJ
        case o9 =>
          intro W hO hJ;rintro _ rfl;change wpList _ _ _ _ _ _
          have hj : Blk W gr 24 [.slice none 0 0,.int .i64 0,.int .i64 0,.int .i64 0]:=hJ
          refine j5 rfl 24 (.tmp 2) (.tmp 63) rfl gr [.slice none 0 0,.int .i64 0,.int .i64 0,.int .i64 0] rfl rfl _ _ hj jD rfl (jU wtNone) ?_
          intro wa hka hga hza
          go_wp2
          exact l8 rfl (Only.of_grown hga rfl) hka
        case o10 => intro p W hO hJ;rintro _ rfl;change wpList _ _ _ _ _ _;go_wp2;exact j8 rfl rfl rfl hJ
        case o11 => intro p W hO hJ;rintro _ rfl;change wpList _ _ _ _ _ _;go_wp2;exact j8 rfl rfl rfl hJ
      case hend =>
        intro W hO hJ;rintro _ rfl;rintro _ rfl;rintro _ rfl;rintro _ rfl;rintro _ rfl;rintro _ rfl;rintro _ rfl;rintro _ rfl;rintro _ rfl;rintro _ rfl;rintro _ rfl
        simp only [ggiven,jJ,List.set]
        have HKa : Kept (Blk W gr 24 [.slice none 0 0,.int .i64 0,.int .i64 0,.int .i64 0]):=kp hJ
        have HBa : Kept (Below w.heap.size w W):=kp (HBz.out.trans (hO.below hszz (fun k hk => by subst hk;exact hgr)))
        clear hJ hO
        go_wp2_with ((with_reducible show bodyPost _ _ _ _ _ _);exact bodyPost_ret (lK (P:=Try.prog) (fn:=Try.f15) rfl _ _ gr 24 _ _ _ _ rfl rfl rfl HKa.out Try.underlying24 rfl jD) rfl ⟨wtNone,rfl,lF _ _,lD,HBa.out⟩)
    by_cases hat : s5.at_ < n
    · have HSE : Kept (R.fail s5 7 = s6):=kp (by rw [← H6.out];exact (if_pos ⟨hw5,hat⟩).symm)
      have hw6 : s6.why = 7:=by rw [← HSE.out];unfold R.fail;rw [if_pos hw5]
      have hwz : ((s5.why : Int) == 0) = true:=by rw [beq_iff_eq];omega
      have hatz : decide (s5.at_ < n) = true:=decide_eq_true hat
      have hwz2 : ((s6.why : Int) != 0) = true:=by rw [bne_iff_ne];omega
      have hxe:=HX.out
      rw [T.read_fault (HNf.out hnf) (by rw [HFin.out];exact (by omega)),HFin.out] at hxe
      obtain ⟨rfl,h7⟩:=Prod.mk.inj hxe
      obtain ⟨rfl,rfl⟩:=Prod.mk.inj h7
      clear hxe h7
      clear hw5 hat hw6
      go_wp2_with (first
        | ((with_reducible show Sn);(refine j9 rfl 3 (.tmp 41) (.tmp 40) rfl g9 3 (.int .i64 (gl : Int)) rfl rfl rfl rfl _ _ KU.out (show 3 < 4 by omega) lS ?_);intro q2 hka hga hza
           have K9a2 : Kept (Blk q2 g9 24 [.slice none 0 0,.int .i64 (a : Int),.int .i64 (b : Int),.int .i64 (gl : Int)]):=kp hka
           have KRa2:=kp (RU.out.grown hga (sne NE.out.1));have KZa2:=kp (ZU.out.grown hga (sne NE.out.2.1));have RDa2 : Kept (Rd q2 g A n c s5):=kp (Blk.grown PU.out hga (sne NE.out.2.2.1))
           have HTa2:=kp (TU.out.turned hga h7u h7);have HBa2:=kp (BU.out.grown hga hsu (fun k e => by cases e;exact LO.out.2))
           have hsa2:=HBa2.out.size;have h72 : w7.heap.size ≤ q2.heap.size:=by omega
           obtain ⟨_,hq1,hq2,hq3,_,_,_⟩:=RDa2.out.cells
           clear hka hga hza KU RU ZU TU PU WU BU hsu h7u)
        | (go_at_call 40;fail))
      refine (vJ g A n c s5 7 s6 HSE.out q2 RDa2.out).mono ?_
      rintro e q3 ⟨rfl,hk,hg⟩
      have RD3:=kp hk;have KR3':=kp (KRa2.out.grown hg (sne NE.out.2.2.2.1));have KZ3':=kp (KZa2.out.grown hg (sne NE.out.2.2.2.2.1));have HB3':=kp (HBa2.out.grown hg hsa2 (fun k e => by cases e;exact LO.out.1))
      clear hq1 hq2 hq3
      obtain ⟨_,hq1,hq2,hq3,_,_,_⟩:=hk.cells
      clear hk hg
      go_wp2_with fail
      have HKaz:=kp KR3'.out;have HKbz:=kp KZ3'.out;have HRdz:=kp RD3.out;have HBz:=kp HB3'.out
      have hszz:=HBz.out.size
      clear hq1 hq2 hq3
      apply qD (fun k => k = gr) [9] (phs ([fun W => Blk W gr 24 [.slice none 0 0,.int .i64 0,.int .i64 0,.int .i64 0],fun W => Blk W gr 24 [.slice none 0 0,.int .i64 0,.int .i64 0,.int .i64 0]])) (.is _ :: .is _ :: .is _ :: .is _ :: .is _ :: .is _ :: .is _ :: .is _ :: .is _ :: .any _ :: .is _ :: .is _ :: [])
        [[],[],[(1,64)],[(2,65)],[(3,66)],[],[(5,68)],[(6,69)],[(7,70)],[(0,63)],[(4,67)],[(8,71)]]
        [(0,63),(1,64),(2,65),(3,66),(4,67),(5,68),(6,69),(7,70),(8,71),(10,3),(11,4)] (by kernel_rfl) (by kernel_rfl) (by kernel_rfl) (by decide)
      case h0 => exact HKaz.out
      case hob =>
        refine jE rfl ?o0 (jE rfl ?o1 (jE rfl ?o2 (jE rfl ?o3 (jE rfl ?o4 (jE rfl ?o5 (jE rfl ?o6 (jE rfl ?o7 (jE rfl ?o8 (qL 0 rfl rfl ?o9 (jE rfl ?o10 (jE rfl ?o11 (xH))))))))))))
        case o0 =>
          intro p W hO hJ;change wpList _ _ _ _ _ _
          refine j4 rfl 24 (.tmp 5) rfl g5 rfl _ [.slice none 0 0,.int .i64 0,.int .i64 0,.int .i64 0] _ (hO.blk HKbz.out NE.out.2.2.2.2.2) Try.underlying24 rfl jD ?_
          go_wp2;exact j8 rfl rfl rfl hJ
        case o1 => intro p W hO hJ;change wpList _ _ _ _ _ _;go_wp2;exact j8 rfl rfl rfl hJ
        case o2 => intro p W hO hJ;rintro _ rfl;change wpList _ _ _ _ _ _;go_wp2;exact j8 rfl rfl rfl hJ
        case o3 => intro p W hO hJ;rintro _ rfl;change wpList _ _ _ _ _ _;go_wp2;exact j8 rfl rfl rfl hJ
        case o4 =>
          intro p W hO hJ;rintro _ rfl;change wpList _ _ _ _ _ _
          have hq : W.cell? ⟨g,2,none⟩ = some (.int .i64 (s6.wh : Int)):=(hO.blk HRdz.out NE.out.2.2.2.1.symm).cell 2
          go_wp2;exact j8 rfl rfl rfl hJ
        case o5 => intro p W hO hJ;change wpList _ _ _ _ _ _;go_wp2;exact j8 rfl rfl rfl hJ
        case o6 => intro p W hO hJ;rintro _ rfl;change wpList _ _ _ _ _ _;go_wp2;exact j8 rfl rfl rfl hJ
        case o7 => intro p W hO hJ;rintro _ rfl;change wpList _ _ _ _ _ _;go_wp2;exact j8 rfl rfl rfl hJ
        case o8 =>
          intro p W hO hJ;rintro _ rfl;change wpList _ _ _ _ _ _
          have hq : W.cell? ⟨g,3,none⟩ = some (.int .i64 (s6.why : Int)):=(hO.blk HRdz.out NE.out.2.2.2.1.symm).cell 3
          go_wp2;exact j8 rfl rfl rfl hJ
        case o9 =>
          intro W hO hJ;rintro _ rfl;change wpList _ _ _ _ _ _
          have hj : Blk W gr 24 [.slice none 0 0,.int .i64 0,.int .i64 0,.int .i64 0]:=hJ
          refine j5 rfl 24 (.tmp 2) (.tmp 63) rfl gr [.slice none 0 0,.int .i64 0,.int .i64 0,.int .i64 0] rfl rfl _ _ hj jD rfl (jU wtNone) ?_
          intro wa hka hga hza
          go_wp2
          exact l8 rfl (Only.of_grown hga rfl) hka
        case o10 => intro p W hO hJ;rintro _ rfl;change wpList _ _ _ _ _ _;go_wp2;exact j8 rfl rfl rfl hJ
        case o11 => intro p W hO hJ;rintro _ rfl;change wpList _ _ _ _ _ _;go_wp2;exact j8 rfl rfl rfl hJ
      case hend =>
        intro W hO hJ;rintro _ rfl;rintro _ rfl;rintro _ rfl;rintro _ rfl;rintro _ rfl;rintro _ rfl;rintro _ rfl;rintro _ rfl;rintro _ rfl;rintro _ rfl;rintro _ rfl
        simp only [ggiven,jJ,List.set]
        have HKa : Kept (Blk W gr 24 [.slice none 0 0,.int .i64 0,.int .i64 0,.int .i64 0]):=kp hJ
        have HBa : Kept (Below w.heap.size w W):=kp (HBz.out.trans (hO.below hszz (fun k hk => by subst hk;exact hgr)))
        clear hJ hO
        go_wp2_with ((with_reducible show bodyPost _ _ _ _ _ _);exact bodyPost_ret (lK (P:=Try.prog) (fn:=Try.f15) rfl _ _ gr 24 _ _ _ _ rfl rfl rfl HKa.out Try.underlying24 rfl jD) rfl ⟨wtNone,rfl,lF _ _,lD,HBa.out⟩)
    have HSE : Kept (s6 = s5):=kp (by rw [← H6.out];exact if_neg (fun h => hat h.2))
    have hw6 : s6.why = 0:=by rw [HSE.out];exact hw5
    obtain ⟨ht1,ha7,hb7,hg15⟩:=HTu.out hw6
    rw [HNt.out] at ht1
    have HRd : Kept (∀ Q : Prop,(¬ ((T.h0 bs).2.why = 0 ∧ (T.h0 bs).1 ≠ T.mark) → (T.fin bs).why = 0 → Q) → Q):=kp (fun Q h => h (HNf.out hnf) (by rw [HFin.out];exact hw6))
    have HP2 : Kept ((T.p2 bs (T.h0 bs).2).1 = tu):=kp (by rw [HE0.out,H2.out])
    have HP3 : Kept ((T.p3 bs (T.h0 bs).2).1 = a):=kp (by rw [HE0.out,H3.out])
    have HP4 : Kept ((T.p4 bs (T.h0 bs).2).1 = b):=kp (by rw [HE0.out,H4.out])
    have HP5 : Kept ((T.p5 bs (T.h0 bs).2).1 = gl):=kp (by rw [HE0.out,H5.out])
    have HPick : Kept ((∃ x ∈ tu,16 ≤ x) → d = T.none_ ∧ n = at_ ∧ why = 3):=kp (fun h => by
      have hx:=HX.out
      rw [HRd.out _ fun q1 q2 => T.read_pick q1 q2 (by rw [HP2.out];exact h)] at hx
      rw [HLb.out] at hx
      cases hx;exact ⟨rfl,rfl,rfl⟩)
    have HAlike : Kept ((∀ x ∈ tu,x < 16) → a = b → d = T.none_ ∧ n = at_ ∧ why = 1):=kp (fun h h' => by
      have hx:=HX.out
      rw [HRd.out _ fun q1 q2 => T.read_alike q1 q2 (by rw [HP2.out];rintro ⟨x,hx,h16⟩;have:=h x hx;omega) (by rw [HP3.out,HP4.out];exact h')] at hx
      rw [HLb.out] at hx
      cases hx;exact ⟨rfl,rfl,rfl⟩)
    have HFine : Kept ((∀ x ∈ tu,x < 16) → a ≠ b → d = ⟨tu.map M.bp,a,b,gl⟩ ∧ at_ = 0 ∧ why = 0):=kp (fun h h' => by
      have hx:=HX.out
      rw [HRd.out _ fun q1 q2 => T.read_fine q1 q2 (by rw [HP2.out];rintro ⟨x,hx,h16⟩;have:=h x hx;omega) (by rw [HP3.out,HP4.out];exact h')] at hx
      rw [HP2.out,HP3.out,HP4.out,HP5.out] at hx
      cases hx;exact ⟨rfl,rfl,rfl⟩)
    have hwz : ((s5.why : Int) == 0) = true:=by rw [beq_iff_eq];omega
    have hwz2 : ((s5.why : Int) != 0) = false:=by rw [bne_eq_false_iff_eq];omega
    have hatz : decide (s5.at_ < n) = false:=decide_eq_false hat
    clear hw5 hw6 hat
    go_wp2_with (first
      | ((with_reducible show Sn);(refine j9 rfl 3 (.tmp 41) (.tmp 40) rfl g9 3 (.int .i64 (gl : Int)) rfl rfl rfl rfl _ _ KU.out (show 3 < 4 by omega) lS ?_);intro q2 hka hga hza
         have K9a2 : Kept (Blk q2 g9 24 [.slice none 0 0,.int .i64 (a : Int),.int .i64 (b : Int),.int .i64 (gl : Int)]):=kp hka
         have KRa2:=kp (RU.out.grown hga (sne NE.out.1));have KZa2:=kp (ZU.out.grown hga (sne NE.out.2.1));have RDa2 : Kept (Rd q2 g A n c s5):=kp (Blk.grown PU.out hga (sne NE.out.2.2.1))
         have HTa2:=kp (TU.out.turned hga h7u h7);have HBa2:=kp (BU.out.grown hga hsu (fun k e => by cases e;exact LO.out.2))
         have hsa2:=HBa2.out.size;have h72 : w7.heap.size ≤ q2.heap.size:=by omega
         obtain ⟨_,hq1,hq2,hq3,_,_,_⟩:=RDa2.out.cells
         clear hka hga hza KU RU ZU TU PU WU BU hsu h7u)
      | fail)
    clear hq1 hq2 hq3 hwz hwz2 hatz
    have hl13:=K9a2.out.lt;have hlr13:=KRa2.out.lt
    have HTk : Kept (∀ W,Only (fun k => k = g9) q2 W → Row byteV W w7.heap.size A8 nt tu):=kp (fun W hW => HTa2.out.onlyB hW h72 (fun k hk => by omega))
    have HKk : Kept (∀ W,Only (fun k => k = g9) q2 W → Blk W gr 24 [.slice none 0 0,.int .i64 0,.int .i64 0,.int .i64 0] ∧ Blk W g5 24 [.slice none 0 0,.int .i64 0,.int .i64 0,.int .i64 0] ∧ Below w.heap.size w W):=kp (fun W hW => ⟨hW.blk KRa2.out NE.out.1,hW.blk KZa2.out NE.out.2.1,HBa2.out.trans (hW.below hsa2 (fun k hk => by subst hk;exact LO.out.2))⟩)
    go_loopw [10] (fun v10 wr => ∃ (i : Nat) (vL : Value),i ≤ nt ∧ v10 = .int .i64 i ∧ Blk wr g9 24 [vL,.int .i64 (a : Int),.int .i64 (b : Int),.int .i64 (gl : Int)] ∧ OwnR 2 pkV wr q2.heap.size 56 vL ((tu.take i).map M.bp) ∧ (∀ (j : Nat) y,j < i → tu[j]? = some y → y < 16) ∧ Only (fun k => k = g9) q2 wr) (fun v10 _ => nt - (intOf v10).toNat)
    case atStart => exact ⟨0,_,by omega,rfl,K9a2.out,OwnR.nil _ _ _ _ _,(fun _ _ h => by omega),Only.refl _ _⟩
    case round =>
      clear K9a2 RDa2 HTa2
      obtain ⟨i,vL,hi,rfl,hk9,hown,hbef,hon⟩:=hrel
      have HK9:=kp hk9;have HOw:=kp hown;have HBef:=kp hbef;have HOn:=kp hon
      obtain ⟨hkr,hkz,hbw⟩:=HKk.out wr hon
      have KRr:=kp hkr;have KZr:=kp hkz;have HBr:=kp hbw
      have hsr:=hbw.size;have hsz13:=hon.size;have hl9:=hk9.lt
      have HTr:=kp (HTk.out wr hon)
      have HTl : Kept (((tu.take i).map M.bp).length = i):=kp (by rw [List.length_map,List.length_take];have:=HNt.out;omega)
      clear hk9 hown hbef hon hkr hkz hbw
      by_cases hlt : i < nt
      · obtain ⟨ad,x,rfl,hadB,hxx,hcx⟩:=HTr.out.get hlt
        have HXx:=kp hxx
        replace hcx : wr.cell? (ad.add i) = some (.int .u8 (x : Int)):=hcx
        have hx256 : x < 256:=HTub.out x (List.mem_of_getElem? hxx)
        clear hxx
        by_cases h16 : x < 16
        rotate_left
        · obtain ⟨rfl,rfl,rfl⟩:=HPick.out ⟨x,List.mem_of_getElem? HXx.out,by omega⟩
          go_wp2_with (first
            | ((with_reducible show Sl 83);go_must (refine j4 rfl 24 (.tmp 5) rfl g5 rfl _ [.slice none 0 0,.int .i64 0,.int .i64 0,.int .i64 0] _ KZr.out Try.underlying24 rfl jD ?_))
            | ((with_reducible show Sn);(refine j5 rfl 24 (.tmp 2) (.tmp 83) rfl gr [.slice none 0 0,.int .i64 0,.int .i64 0,.int .i64 0] rfl rfl _ _ KRr.out jD rfl (jU wtNone) ?_);intro wa hka hga hza
               have HKa:=kp hka;have HWa:=kp (HBr.out.grown hga HBr.out.size (by intro k e;cases e;exact hgr))
               clear hka hga)
            | ((with_reducible show bodyPost _ _ _ _ _ _);exact bodyPost_ret (lK (P:=Try.prog) (fn:=Try.f15) rfl _ _ gr 24 _ _ _ _ rfl rfl rfl HKa.out Try.underlying24 rfl jD) rfl ⟨wtNone,rfl,lF _ _,lD,HWa.out⟩))
        obtain ⟨l,hl⟩ : ∃ l,(tu.take i).map M.bp = l:=⟨_,rfl⟩
        have HLb : Kept (l ++ [M.bp x] = (tu.take (i + 1)).map M.bp):=kp (by rw [← hl];exact take_bp HXx.out)
        have HD7 : Kept (decide ((7 : Int) < (x : Int)) = decide (7 < x)):=kp (by rw [decide_eq_decide];omega)
        rw [hl] at HOw HTl
        clear hl
        go_wp2
        rcases QF HOw.out HTl.out with ⟨rfl,hi0⟩ | ⟨q,rfl⟩ | ⟨q,cap,rfl,hroom⟩
        · clear hi0
          apply jH 17 (.is _ :: .is (.slice none 0 0) :: .is (.slice (some ad) nt c8) :: .is (.int .i64 (i : Int)) :: .is (.pointer (some (ad.add i))) :: .is (.int .u8 (x : Int)) :: .is (.int .i64 (x : Int)) :: .is (.int .i64 ((x % 8 : Nat) : Int)) :: .is (.slice (some ad) nt c8) :: .is (.int .i64 (i : Int)) :: .is (.pointer (some (ad.add i))) :: .is (.int .u8 (x : Int)) :: .is (.bool (decide ((7 : Int) < (x : Int)))) :: .is (.agg #[.int .i64 ((x % 8 : Nat) : Int),.bool (decide ((7 : Int) < (x : Int)))]) :: Fact.elem 56 [.int .i64 ((x % 8 : Nat) : Int),.bool (decide ((7 : Int) < (x : Int)))] :: Fact.ownN 2 pkV q2.heap.size 56 wr.heap.size (i + 1) (l ++ [M.bp x]) :: .is (.pointer (some ⟨g9,0,none⟩)) :: [])
            [[],[(0,86)],[],[],[(2,88),(3,89)],[(4,90)],[(5,91)],[(6,92)],[],[],[(8,94),(9,95)],[(10,96)],[(11,97)],[(7,93),(12,98)],[(13,99)],[(1,87),(14,100)],[],[(16,102),(15,101)]]
            [(0,86),(1,87),(2,88),(3,89),(4,90),(5,91),(6,92),(7,93),(8,94),(9,95),(10,96),(11,97),(12,98),(13,99),(14,100),(15,101),(16,102)] (by kernel_rfl) (by kernel_rfl) (by kernel_rfl) (by kernel_rfl) (by kernel_rfl)
          case hob =>
            refine ⟨?o0,?o1,?o2,?o3,?o4,?o5,?o6,?o7,?o8,?o9,?o10,?o11,?o12,?o13,?o14,?o15,?o16,trivial⟩
            case o0 => intro W hW;change wpList _ _ _ _ _ _;go_wp2;exact j0 rfl rfl rfl
            case o1 =>
              intro W hW;rintro _ rfl;change wpList _ _ _ _ _ _
              have hc : W.cell? ⟨g9,0,none⟩ = some (.slice none 0 0):=(HK9.out.below hW HK9.out.lt).cell 0
              go_wp2;exact j0 rfl rfl rfl
            case o2 => intro W hW;change wpList _ _ _ _ _ _;go_wp2;exact j0 rfl rfl rfl
            case o3 => intro W hW;change wpList _ _ _ _ _ _;go_wp2;exact j0 rfl rfl rfl
            case o4 => intro W hW;rintro _ rfl;rintro _ rfl;change wpList _ _ _ _ _ _;go_wp2;exact j0 rfl rfl rfl
            case o5 =>
              intro W hW;rintro _ rfl;change wpList _ _ _ _ _ _
              have hcw : W.cell? (ad.add i) = some (.int .u8 (x : Int)):=(hW.cell (by rw [add_block];omega)).trans hcx
              go_wp2;exact j0 rfl rfl rfl
            case o6 => intro W hW;rintro _ rfl;change wpList _ _ _ _ _ _;go_wp2;exact j0 rfl rfl rfl
            case o7 => intro W hW;rintro _ rfl;change wpList _ _ _ _ _ _;go_wp2;exact j0 rfl rfl rfl
            case o8 => intro W hW;change wpList _ _ _ _ _ _;go_wp2;exact j0 rfl rfl rfl
            case o9 => intro W hW;change wpList _ _ _ _ _ _;go_wp2;exact j0 rfl rfl rfl
            case o10 => intro W hW;rintro _ rfl;rintro _ rfl;change wpList _ _ _ _ _ _;go_wp2;exact j0 rfl rfl rfl
            case o11 =>
              intro W hW;rintro _ rfl;change wpList _ _ _ _ _ _
              have hcw : W.cell? (ad.add i) = some (.int .u8 (x : Int)):=(hW.cell (by rw [add_block];omega)).trans hcx
              go_wp2;exact j0 rfl rfl rfl
            case o12 => intro W hW;rintro _ rfl;change wpList _ _ _ _ _ _;go_wp2;exact j0 rfl rfl rfl
            case o13 => intro W hW;rintro _ rfl;rintro _ rfl;change wpList _ _ _ _ _ _;go_wp2;exact j0 rfl rfl rfl
            case o14 =>
              intro W hW;rintro _ rfl;change wpList _ _ _ _ _ _
              go_wp2;exact jG rfl rfl rfl ((Below.refl _ _).alloc (Nat.le_refl _) _) ⟨W.heap.size,rfl,Blk.new _ _ _⟩
            case o15 =>
              intro W hW;rintro _ rfl;rintro _ ⟨gn,rfl,hbk⟩;change wpList _ _ _ _ _ _
              have HBk : Kept (Blk W gn 56 ((List.range 2).map (pkV (M.bp x)))):=kp (by rw [HD7.out] at hbk;exact hbk);have hOw:=HOw.out.below hW (Nat.le_refl _)
              have hsW2:=hW.size
              clear hbk hW
              go_wp2_with (at_builtin;go_must (refine qO rfl (.tmp 87) (.tmp 100) 22 rfl q2.heap.size 56 2 _ 16 Try.underlying22 xC rfl (by omega) pkV xW _ l (M.bp x) rfl hOw (Or.inl rfl) gn 1 rfl HBk.out (by rw [HTl.out];unfold maxLen;omega) (by rw [HTl.out];omega) (by omega) ?_);intro v6 w6 hown6 hb6 hv6)
              exact jG rfl rfl rfl hb6 ⟨hown6,fun k hk => by rw [hv6] at hk;cases hk;exact hsW2⟩
            case o16 => intro W hW;change wpList _ _ _ _ _ _;go_wp2;exact j0 rfl rfl rfl
          case hend =>
            intro W hW;rintro _ rfl;rintro _ rfl;rintro _ rfl;rintro _ rfl;rintro _ rfl;rintro _ rfl;rintro _ rfl;rintro _ rfl;rintro _ rfl;rintro _ rfl;rintro _ rfl;rintro _ rfl;rintro _ rfl;rintro _ rfl;rintro _ ⟨gn,rfl,_⟩;rintro v6 ⟨hown6,hk6⟩;rintro _ rfl
            simp only [given,jJ,List.set,List.drop]
            obtain ⟨A6,c6,rfl,_⟩:=hown6.form
            have hl6 : (l ++ [M.bp x]).length = i + 1:=by rw [List.length_append,HTl.out];rfl
            rw [hl6] at hown6 hk6 ⊢
            rw [HLb.out] at hown6
            have HO6:=kp hown6;have HK6:=kp hk6
            have HK9W:=kp (HK9.out.below hW HK9.out.lt);have hsW:=hW.size
            have HOnW : Kept (Only (fun k => k = g9) q2 W):=kp (HOn.out.trans (Only.of_below hW))
            clear hown6 hk6 hl6 hW
            go_wp2_with (first
              | ((with_reducible show Sn);(refine j9 rfl 22 (.tmp 102) (.tmp 101) rfl g9 0 (.slice A6 (i + 1) c6) rfl rfl rfl rfl _ _ HK9W.out (show 0 < 4 by omega) yM ?_);intro wa hka hga hza
                 have HJa : Kept (Blk wa g9 24 [.slice A6 (i + 1) c6,.int .i64 (a : Int),.int .i64 (b : Int),.int .i64 (gl : Int)]):=kp hka
                 have HJb:=kp (HO6.out.far hga (.inr (fun e => by have:=HK6.out g9 e;omega)))
                 have HOn2 : Kept (Only (fun k => k = g9) q2 wa):=kp (HOnW.out.trans (Only.of_grown hga rfl))
                 clear hka hga)
              | fail)
            go_roundw
            case rel => exact ⟨i + 1,_,by omega,by go_num,HJa.out,HJb.out,fun j y hj hy => by
              by_cases e : j = i
              · subst e
                rw [HXx.out] at hy
                cases hy
                exact h16
              · exact HBef.out j y (by omega) hy,HOn2.out⟩
            case measure => simp [intOf];omega
        · have hqb:=HOw.out.block q rfl
          apply jH 17 (.is _ :: .is (.slice (some ⟨q,0,none⟩) i i) :: .is (.slice (some ad) nt c8) :: .is (.int .i64 (i : Int)) :: .is (.pointer (some (ad.add i))) :: .is (.int .u8 (x : Int)) :: .is (.int .i64 (x : Int)) :: .is (.int .i64 ((x % 8 : Nat) : Int)) :: .is (.slice (some ad) nt c8) :: .is (.int .i64 (i : Int)) :: .is (.pointer (some (ad.add i))) :: .is (.int .u8 (x : Int)) :: .is (.bool (decide ((7 : Int) < (x : Int)))) :: .is (.agg #[.int .i64 ((x % 8 : Nat) : Int),.bool (decide ((7 : Int) < (x : Int)))]) :: Fact.elem 56 [.int .i64 ((x % 8 : Nat) : Int),.bool (decide ((7 : Int) < (x : Int)))] :: Fact.ownN 2 pkV q2.heap.size 56 wr.heap.size (i + 1) (l ++ [M.bp x]) :: .is (.pointer (some ⟨g9,0,none⟩)) :: [])
            [[],[(0,86)],[],[],[(2,88),(3,89)],[(4,90)],[(5,91)],[(6,92)],[],[],[(8,94),(9,95)],[(10,96)],[(11,97)],[(7,93),(12,98)],[(13,99)],[(1,87),(14,100)],[],[(16,102),(15,101)]]
            [(0,86),(1,87),(2,88),(3,89),(4,90),(5,91),(6,92),(7,93),(8,94),(9,95),(10,96),(11,97),(12,98),(13,99),(14,100),(15,101),(16,102)] (by kernel_rfl) (by kernel_rfl) (by kernel_rfl) (by kernel_rfl) (by kernel_rfl)
          case hob =>
            refine ⟨?o0,?o1,?o2,?o3,?o4,?o5,?o6,?o7,?o8,?o9,?o10,?o11,?o12,?o13,?o14,?o15,?o16,trivial⟩
            case o0 => intro W hW;change wpList _ _ _ _ _ _;go_wp2;exact j0 rfl rfl rfl
            case o1 =>
              intro W hW;rintro _ rfl;change wpList _ _ _ _ _ _
              have hc : W.cell? ⟨g9,0,none⟩ = some (.slice (some ⟨q,0,none⟩) i i):=(HK9.out.below hW HK9.out.lt).cell 0
              go_wp2;exact j0 rfl rfl rfl
            case o2 => intro W hW;change wpList _ _ _ _ _ _;go_wp2;exact j0 rfl rfl rfl
            case o3 => intro W hW;change wpList _ _ _ _ _ _;go_wp2;exact j0 rfl rfl rfl
            case o4 => intro W hW;rintro _ rfl;rintro _ rfl;change wpList _ _ _ _ _ _;go_wp2;exact j0 rfl rfl rfl
            case o5 =>
              intro W hW;rintro _ rfl;change wpList _ _ _ _ _ _
              have hcw : W.cell? (ad.add i) = some (.int .u8 (x : Int)):=(hW.cell (by rw [add_block];omega)).trans hcx
              go_wp2;exact j0 rfl rfl rfl
            case o6 => intro W hW;rintro _ rfl;change wpList _ _ _ _ _ _;go_wp2;exact j0 rfl rfl rfl
            case o7 => intro W hW;rintro _ rfl;change wpList _ _ _ _ _ _;go_wp2;exact j0 rfl rfl rfl
            case o8 => intro W hW;change wpList _ _ _ _ _ _;go_wp2;exact j0 rfl rfl rfl
            case o9 => intro W hW;change wpList _ _ _ _ _ _;go_wp2;exact j0 rfl rfl rfl
            case o10 => intro W hW;rintro _ rfl;rintro _ rfl;change wpList _ _ _ _ _ _;go_wp2;exact j0 rfl rfl rfl
            case o11 =>
              intro W hW;rintro _ rfl;change wpList _ _ _ _ _ _
              have hcw : W.cell? (ad.add i) = some (.int .u8 (x : Int)):=(hW.cell (by rw [add_block];omega)).trans hcx
              go_wp2;exact j0 rfl rfl rfl
            case o12 => intro W hW;rintro _ rfl;change wpList _ _ _ _ _ _;go_wp2;exact j0 rfl rfl rfl
            case o13 => intro W hW;rintro _ rfl;rintro _ rfl;change wpList _ _ _ _ _ _;go_wp2;exact j0 rfl rfl rfl
            case o14 =>
              intro W hW;rintro _ rfl;change wpList _ _ _ _ _ _
              go_wp2;exact jG rfl rfl rfl ((Below.refl _ _).alloc (Nat.le_refl _) _) ⟨W.heap.size,rfl,Blk.new _ _ _⟩
            case o15 =>
              intro W hW;rintro _ rfl;rintro _ ⟨gn,rfl,hbk⟩;change wpList _ _ _ _ _ _
              have HBk : Kept (Blk W gn 56 ((List.range 2).map (pkV (M.bp x)))):=kp (by rw [HD7.out] at hbk;exact hbk);have hOw:=HOw.out.below hW (Nat.le_refl _)
              have hsW2:=hW.size
              clear hbk hW
              go_wp2_with (at_builtin;go_must (refine qC rfl (.tmp 87) (.tmp 100) 22 rfl q2.heap.size 56 2 _ 16 Try.underlying22 xC rfl (by omega) pkV xW q i i l HTl.out (M.bp x) rfl hOw rfl gn 1 rfl HBk.out (by unfold maxLen;omega) (by omega) (by omega) ?_);intro g6 c6 w6 hown6 hb6 hg6)
              exact jG rfl rfl rfl hb6 ⟨hown6,fun k hk => by cases hk;exact Nat.le_trans hsW2 hg6⟩
            case o16 => intro W hW;change wpList _ _ _ _ _ _;go_wp2;exact j0 rfl rfl rfl
          case hend =>
            intro W hW;rintro _ rfl;rintro _ rfl;rintro _ rfl;rintro _ rfl;rintro _ rfl;rintro _ rfl;rintro _ rfl;rintro _ rfl;rintro _ rfl;rintro _ rfl;rintro _ rfl;rintro _ rfl;rintro _ rfl;rintro _ rfl;rintro _ ⟨gn,rfl,_⟩;rintro v6 ⟨hown6,hk6⟩;rintro _ rfl
            simp only [given,jJ,List.set,List.drop]
            obtain ⟨A6,c6,rfl,_⟩:=hown6.form
            have hl6 : (l ++ [M.bp x]).length = i + 1:=by rw [List.length_append,HTl.out];rfl
            rw [hl6] at hown6 hk6 ⊢
            rw [HLb.out] at hown6
            have HO6:=kp hown6;have HK6:=kp hk6
            have HK9W:=kp (HK9.out.below hW HK9.out.lt);have hsW:=hW.size
            have HOnW : Kept (Only (fun k => k = g9) q2 W):=kp (HOn.out.trans (Only.of_below hW))
            clear hown6 hk6 hl6 hW
            go_wp2_with (first
              | ((with_reducible show Sn);(refine j9 rfl 22 (.tmp 102) (.tmp 101) rfl g9 0 (.slice A6 (i + 1) c6) rfl rfl rfl rfl _ _ HK9W.out (show 0 < 4 by omega) yM ?_);intro wa hka hga hza
                 have HJa : Kept (Blk wa g9 24 [.slice A6 (i + 1) c6,.int .i64 (a : Int),.int .i64 (b : Int),.int .i64 (gl : Int)]):=kp hka
                 have HJb:=kp (HO6.out.far hga (.inr (fun e => by have:=HK6.out g9 e;omega)))
                 have HOn2 : Kept (Only (fun k => k = g9) q2 wa):=kp (HOnW.out.trans (Only.of_grown hga rfl))
                 clear hka hga)
              | fail)
            go_roundw
            case rel => exact ⟨i + 1,_,by omega,by go_num,HJa.out,HJb.out,fun j y hj hy => by
              by_cases e : j = i
              · subst e
                rw [HXx.out] at hy
                cases hy
                exact h16
              · exact HBef.out j y (by omega) hy,HOn2.out⟩
            case measure => simp [intOf];omega
        · have hqb:=HOw.out.block q rfl
          have hcm9:=ownR_cap HOw.out
          have HQ9 : Kept (q ≠ g9):=kp (by have h1:=hqb.1;omega)
          apply q7 (fun k => k = q ∨ k = g9) [15,17] [0,1,2,3,4,5,6,7,8,9,10,11,12,13,14] (phs ([(fun W => Blk W g9 24 [.slice (some ⟨q,0,none⟩) i cap,.int .i64 (a : Int),.int .i64 (b : Int),.int .i64 (gl : Int)] ∧ OwnR 2 pkV W q2.heap.size 56 (.slice (some ⟨q,0,none⟩) i cap) l),(fun W => Blk W g9 24 [.slice (some ⟨q,0,none⟩) i cap,.int .i64 (a : Int),.int .i64 (b : Int),.int .i64 (gl : Int)] ∧ OwnR 2 pkV W q2.heap.size 56 (.slice (some ⟨q,0,none⟩) (i + 1) cap) (l ++ [M.bp x])),(fun W => Blk W g9 24 [.slice (some ⟨q,0,none⟩) (i + 1) cap,.int .i64 (a : Int),.int .i64 (b : Int),.int .i64 (gl : Int)] ∧ OwnR 2 pkV W q2.heap.size 56 (.slice (some ⟨q,0,none⟩) (i + 1) cap) (l ++ [M.bp x]))] : List (World → Prop))) (.is _ :: .is (.slice (some ⟨q,0,none⟩) i cap) :: .is (.slice (some ad) nt c8) :: .is (.int .i64 (i : Int)) :: .is (.pointer (some (ad.add i))) :: .is (.int .u8 (x : Int)) :: .is (.int .i64 (x : Int)) :: .is (.int .i64 ((x % 8 : Nat) : Int)) :: .is (.slice (some ad) nt c8) :: .is (.int .i64 (i : Int)) :: .is (.pointer (some (ad.add i))) :: .is (.int .u8 (x : Int)) :: .is (.bool (decide ((7 : Int) < (x : Int)))) :: .is (.agg #[.int .i64 ((x % 8 : Nat) : Int),.bool (decide ((7 : Int) < (x : Int)))]) :: GFact.elem _ 56 [.int .i64 ((x % 8 : Nat) : Int),.bool (decide ((7 : Int) < (x : Int)))] 0 :: .is (.slice (some ⟨q,0,none⟩) (i + 1) cap) :: .is (.pointer (some ⟨g9,0,none⟩)) :: .any _ :: [])
            [[],[(0,86)],[],[],[(2,88),(3,89)],[(4,90)],[(5,91)],[(6,92)],[],[],[(8,94),(9,95)],[(10,96)],[(11,97)],[(7,93),(12,98)],[(13,99)],[(1,87),(14,100)],[],[(16,102),(15,101)]]
            [(0,86),(1,87),(2,88),(3,89),(4,90),(5,91),(6,92),(7,93),(8,94),(9,95),(10,96),(11,97),(12,98),(13,99),(14,100),(15,101),(16,102)] (by kernel_rfl) (by kernel_rfl) (by kernel_rfl) (by kernel_rfl) (by decide)
          case h0 => exact ⟨HK9.out,HOw.out⟩
          case hob =>
            refine jB rfl rfl ?o0 (jB rfl rfl ?o1 (jB rfl rfl ?o2 (jB rfl rfl ?o3 (jB rfl rfl ?o4 (jB rfl rfl ?o5 (jB rfl rfl ?o6 (jB rfl rfl ?o7 (jB rfl rfl ?o8 (jB rfl rfl ?o9 (jB rfl rfl ?o10 (jB rfl rfl ?o11 (jB rfl rfl ?o12 (jB rfl rfl ?o13 (jB rfl rfl ?o14 (lQ 0 rfl rfl ?o15 (lI rfl rfl ?o16 (lQ 1 rfl rfl ?o17 (xJ))))))))))))))))))
            case o0 => intro W hO hJ;change wpList _ _ _ _ _ _;go_wp2;exact j8 rfl rfl rfl hJ
            case o1 =>
              intro W hO hJ;rintro _ rfl;change wpList _ _ _ _ _ _
              have hc : W.cell? ⟨g9,0,none⟩ = some (.slice (some ⟨q,0,none⟩) i cap):=hJ.1.cell 0
              go_wp2;exact j8 rfl rfl rfl hJ
            case o2 => intro W hO hJ;change wpList _ _ _ _ _ _;go_wp2;exact j8 rfl rfl rfl hJ
            case o3 => intro W hO hJ;change wpList _ _ _ _ _ _;go_wp2;exact j8 rfl rfl rfl hJ
            case o4 => intro W hO hJ;rintro _ rfl;rintro _ rfl;change wpList _ _ _ _ _ _;go_wp2;exact j8 rfl rfl rfl hJ
            case o5 =>
              intro W hO hJ;rintro _ rfl;change wpList _ _ _ _ _ _
              have hcw : W.cell? (ad.add i) = some (.int .u8 (x : Int)):=(hO.cell (by rw [add_block];omega) (by rw [add_block];omega)).trans hcx
              go_wp2;exact j8 rfl rfl rfl hJ
            case o6 => intro W hO hJ;rintro _ rfl;change wpList _ _ _ _ _ _;go_wp2;exact j8 rfl rfl rfl hJ
            case o7 => intro W hO hJ;rintro _ rfl;change wpList _ _ _ _ _ _;go_wp2;exact j8 rfl rfl rfl hJ
            case o8 => intro W hO hJ;change wpList _ _ _ _ _ _;go_wp2;exact j8 rfl rfl rfl hJ
            case o9 => intro W hO hJ;change wpList _ _ _ _ _ _;go_wp2;exact j8 rfl rfl rfl hJ
            case o10 => intro W hO hJ;rintro _ rfl;rintro _ rfl;change wpList _ _ _ _ _ _;go_wp2;exact j8 rfl rfl rfl hJ
            case o11 =>
              intro W hO hJ;rintro _ rfl;change wpList _ _ _ _ _ _
              have hcw : W.cell? (ad.add i) = some (.int .u8 (x : Int)):=(hO.cell (by rw [add_block];omega) (by rw [add_block];omega)).trans hcx
              go_wp2;exact j8 rfl rfl rfl hJ
            case o12 => intro W hO hJ;rintro _ rfl;change wpList _ _ _ _ _ _;go_wp2;exact j8 rfl rfl rfl hJ
            case o13 => intro W hO hJ;rintro _ rfl;rintro _ rfl;change wpList _ _ _ _ _ _;go_wp2;exact j8 rfl rfl rfl hJ
            case o14 =>
              intro W hO hJ;rintro _ rfl;change wpList _ _ _ _ _ _
              have hng : ¬ (W.heap.size = q ∨ W.heap.size = g9):=by
                have h1:=hJ.1.lt
                have h2:=(hJ.2.block q rfl).2
                omega
              have hbl : Below W.heap.size W (W.alloc (.cells ([.int .i64 ((x % 8 : Nat) : Int),.bool (decide ((7 : Int) < (x : Int)))] : List Value).toArray 56)):=(Below.refl _ _).alloc (Nat.le_refl _) _
              have hJ0 : (fun W => Blk W g9 24 [.slice (some ⟨q,0,none⟩) i cap,.int .i64 (a : Int),.int .i64 (b : Int),.int .i64 (gl : Int)] ∧ OwnR 2 pkV W q2.heap.size 56 (.slice (some ⟨q,0,none⟩) i cap) l) (W.alloc (.cells ([.int .i64 ((x % 8 : Nat) : Int),.bool (decide ((7 : Int) < (x : Int)))] : List Value).toArray 56)):=⟨hJ.1.alloc _,hJ.2.below hbl (Nat.le_refl _)⟩
              go_wp2;exact lP rfl rfl rfl (Only.of_below hbl) hJ0 ⟨W.heap.size,rfl,Blk.new _ _ _,hng,Nat.zero_le _⟩
            case o15 =>
              intro W hO hJ;rintro _ rfl;rintro _ ⟨gn,rfl,hbk,hng,_⟩;change wpList _ _ _ _ _ _
              have hJ1 : (fun W => Blk W g9 24 [.slice (some ⟨q,0,none⟩) i cap,.int .i64 (a : Int),.int .i64 (b : Int),.int .i64 (gl : Int)] ∧ OwnR 2 pkV W q2.heap.size 56 (.slice (some ⟨q,0,none⟩) i cap) l) W:=hJ
              have HJ1:=kp hJ1.1;have HBk : Kept (Blk W gn 56 ((List.range 2).map (pkV (M.bp x)))):=kp (by rw [HD7.out] at hbk;exact hbk);have hOw:=hJ1.2
              clear hJ hJ1 hbk hO
              go_wp2_with (at_builtin;go_must (refine jZ rfl (.tmp 87) (.tmp 100) 22 rfl q2.heap.size 56 2 _ 16 Try.underlying22 xC rfl (by omega) pkV xW q cap i l HTl.out (M.bp x) rfl hOw hroom gn 1 rfl HBk.out (by omega) ?_);intro w6 hown6 hgr6)
              exact lP rfl rfl rfl (Only.of_grown hgr6 (.inl rfl)) ⟨HJ1.out.grown hgr6 (sne HQ9.out.symm),hown6⟩ rfl
            case o16 => intro p W hO hJ;change wpList _ _ _ _ _ _;go_wp2;exact j8 rfl rfl rfl hJ
            case o17 =>
              intro W hO hJ;rintro _ rfl;rintro _ rfl;change wpList _ _ _ _ _ _
              have hJ1 : (fun W => Blk W g9 24 [.slice (some ⟨q,0,none⟩) i cap,.int .i64 (a : Int),.int .i64 (b : Int),.int .i64 (gl : Int)] ∧ OwnR 2 pkV W q2.heap.size 56 (.slice (some ⟨q,0,none⟩) (i + 1) cap) (l ++ [M.bp x])) W:=hJ
              refine j9 rfl 22 (.tmp 102) (.tmp 101) rfl g9 0 (.slice (some ⟨q,0,none⟩) (i + 1) cap) rfl rfl rfl rfl _ _ hJ1.1 (show 0 < 4 by omega) yM ?_
              intro wa hka hga hza
              have hj2 : (fun W => Blk W g9 24 [.slice (some ⟨q,0,none⟩) (i + 1) cap,.int .i64 (a : Int),.int .i64 (b : Int),.int .i64 (gl : Int)] ∧ OwnR 2 pkV W q2.heap.size 56 (.slice (some ⟨q,0,none⟩) (i + 1) cap) (l ++ [M.bp x])) wa:=⟨hka,hJ1.2.far hga (.inr (sne HQ9.out))⟩
              go_wp2
              exact l8 rfl (Only.of_grown hga (.inr rfl)) hj2
          case hend =>
            intro W hO hJ;rintro _ rfl;rintro _ rfl;rintro _ rfl;rintro _ rfl;rintro _ rfl;rintro _ rfl;rintro _ rfl;rintro _ rfl;rintro _ rfl;rintro _ rfl;rintro _ rfl;rintro _ rfl;rintro _ rfl;rintro _ rfl;rintro _ ⟨gn,rfl,_,_,_⟩;rintro _ rfl;rintro _ rfl
            simp only [ggiven,jJ,List.set]
            have hJ2 : (fun W => Blk W g9 24 [.slice (some ⟨q,0,none⟩) (i + 1) cap,.int .i64 (a : Int),.int .i64 (b : Int),.int .i64 (gl : Int)] ∧ OwnR 2 pkV W q2.heap.size 56 (.slice (some ⟨q,0,none⟩) (i + 1) cap) (l ++ [M.bp x])) W:=hJ
            have HJa:=kp hJ2.1;have HJb:=kp hJ2.2
            have HOn2 : Kept (Only (fun k => k = g9) q2 W):=kp (only_low HOn.out (XD (G':=fun k => k = g9) (L:=q2.heap.size) hO fun k (hk : k = q ∨ k = g9) (hl : k < q2.heap.size) => by
              rcases hk with hk | hk
              · exact absurd hl (by rw [hk];exact Nat.not_lt.2 hqb.1)
              · exact hk))
            rw [HLb.out] at HJb
            clear hJ hJ2 hO
            go_wp2
            go_roundw
            case rel => exact ⟨i + 1,_,by omega,by go_num,HJa.out,HJb.out,fun j y hj hy => by
              by_cases e : j = i
              · subst e
                rw [HXx.out] at hy
                cases hy
                exact h16
              · exact HBef.out j y (by omega) hy,HOn2.out⟩
            case measure => simp [intOf];omega
      · have hii : i = nt:=by omega
        subst hii
        have H16 : Kept (∀ x ∈ tu,x < 16):=kp (fun x hx => by
          obtain ⟨j,hj⟩:=List.getElem?_of_mem hx
          exact HBef.out j x (by have:=(List.getElem?_eq_some_iff.1 hj).1;have:=HNt.out;omega) hj)
        obtain ⟨AL,cL,hvL,hlcL,hcmL,_⟩:=HOw.out.form
        rw [HTl.out] at hvL hlcL
        subst hvL
        have HTk2 : Kept ((tu.take i).map M.bp = tu.map M.bp):=kp (by rw [List.take_of_length_le (by rw [HNt.out];exact Nat.le_refl _)])
        rw [HTk2.out] at HOw
        have HLc : Kept (i ≤ cL ∧ cL ≤ maxLen):=kp ⟨hlcL,hcmL⟩
        obtain ⟨hd0,hd1,hd2,hd3⟩:=jS (x:=⟨AL,i,cL,[],(a : Int),(b : Int),(gl : Int)⟩) HK9.out
        simp only at hd0 hd1 hd2 hd3
        clear hlt hlcL hcmL
        by_cases hab : a = b
        · obtain ⟨rfl,rfl,rfl⟩:=HAlike.out H16.out hab
          have hq : ((a : Int) == (b : Int)) = true:=by rw [beq_iff_eq];omega
          clear hab
          go_wp2_with (first
            | ((with_reducible show Sl 108);go_must (refine j4 rfl 24 (.tmp 5) rfl g5 rfl _ [.slice none 0 0,.int .i64 0,.int .i64 0,.int .i64 0] _ KZr.out Try.underlying24 rfl jD ?_))
            | ((with_reducible show Sn);(refine j5 rfl 24 (.tmp 2) (.tmp 108) rfl gr [.slice none 0 0,.int .i64 0,.int .i64 0,.int .i64 0] rfl rfl _ _ KRr.out jD rfl (jU wtNone) ?_);intro wa hka hga hza
               have HKa:=kp hka;have HWa:=kp (HBr.out.grown hga HBr.out.size (by intro k e;cases e;exact hgr))
               clear hka hga)
            | ((with_reducible show bodyPost _ _ _ _ _ _);exact bodyPost_ret (lK (P:=Try.prog) (fn:=Try.f15) rfl _ _ gr 24 _ _ _ _ rfl rfl rfl HKa.out Try.underlying24 rfl jD) rfl ⟨wtNone,rfl,lF _ _,lD,HWa.out⟩))
        · obtain ⟨rfl,rfl,rfl⟩:=HFine.out H16.out hab
          have hq : ((a : Int) == (b : Int)) = false:=by rw [beq_eq_false_iff_ne];omega
          clear hab
          go_wp2_with (first
            | ((with_reducible show Sl 111);go_must (refine j4 rfl 24 (.tmp 9) rfl g9 rfl _ [.slice AL i cL,.int .i64 (a : Int),.int .i64 (b : Int),.int .i64 (gl : Int)] _ HK9.out Try.underlying24 rfl jD ?_))
            | ((with_reducible show Sn);(refine j5 rfl 24 (.tmp 2) (.tmp 111) rfl gr [.slice AL i cL,.int .i64 (a : Int),.int .i64 (b : Int),.int .i64 (gl : Int)] rfl rfl _ _ KRr.out jD rfl (jU ⟨AL,i,cL,[],(a : Int),(b : Int),(gl : Int)⟩) ?_);intro wa hka hga hza
               have HKa:=kp hka;have HWa:=kp (HBr.out.grown hga hsr (by intro k e;cases e;exact hgr));have HOa:=kp (HOw.out.far hga (XB HOw.out hlr13))
               clear hka hga)
            | ((with_reducible show bodyPost _ _ _ _ _ _);exact bodyPost_ret (lK (P:=Try.prog) (fn:=Try.f15) rfl _ _ gr 24 _ _ _ _ rfl rfl rfl HKa.out Try.underlying24 rfl jD) rfl ⟨⟨AL,i,cL,tu.map M.bp,(a : Int),(b : Int),(gl : Int)⟩,rfl,⟨⟨HOa.out.recs,fun x hx => by
                obtain ⟨y,_,rfl⟩:=List.mem_map.1 hx
                obtain ⟨h1,h2⟩:=M.bp_ok y
                unfold I64;omega⟩,HLc.out.1,HLc.out.2,HI7.out.1,HI7.out.2.1,HI7.out.2.2⟩,⟨rfl,rfl,rfl,rfl⟩,HWa.out⟩))
end Go.Proofs.Ytcbfghcdbmlneaa
