/- GraphP1, KillP1, OrderMath, HeapMath, Acts, Early, Facts. -/
import Derived.Test.YtlgaefenhfmjfaaDoorPu5
import Derived.Test.YtlgaefenhfmjfaaDoorProgRef5
import Derived.Laws.BitsAllLaws
import Derived.Test.YtlgaefenhfmjfaaDoorPu3
import Derived.Test.YtlgaefenhfmjfaaDoorPu4
import Derived.Test.YtlgaefenhfmjfaaDoorPu1
import Derived.Test.YtlgaefenhfmjfaaDoorPu2
namespace Go.Proofs.YtlgaefenhfmjfaaDoor
open Go.RowKit
def argsL (l : List Nd) (kind : Int) : List Int:=(l.filter fun x => x.kind == kind).map (·.arg)
theorem JB {l : List Nd} {i : Nat} {x : Nd} (kind : Int) (h : l[i]? = some x) : argsL (l.take (i + 1)) kind = argsL (l.take i) kind ++ (if x.kind = kind then [x.arg] else []):=by
  unfold argsL
  rw [List.take_add_one,h,Option.toList_some,List.filter_append,List.map_append]
  by_cases hk : x.kind = kind
  · rw [if_pos hk];simp [hk]
  · rw [if_neg hk];simp [hk]
theorem yJ (l : List Nd) (kind : Int) : (argsL l kind).length ≤ l.length:=by
  unfold argsL
  rw [List.length_map]
  exact List.length_filter_le _ _
theorem vS {l : List Nd} {kind y : Int} : y ∈ argsL l kind ↔ ∃ nd ∈ l,nd.kind = kind ∧ nd.arg = y:=by
  unfold argsL
  rw [List.mem_map]
  constructor
  · rintro ⟨nd,h,rfl⟩
    obtain ⟨h1,h2⟩:=List.mem_filter.1 h
    exact ⟨nd,h1,by simpa using h2,rfl⟩
  · rintro ⟨nd,h1,h2,h3⟩
    exact ⟨nd,List.mem_filter.2 ⟨h1,by simpa using h2⟩,h3⟩
theorem yI {l : List Nd} {kind : Int} (id : Nat) : (id : Int) ∈ argsL l kind ↔ Names l kind id:=vS
set_option maxRecDepth 100000 in
set_option maxHeartbeats 1600000 in
theorem xS (B : Nat) (A : Option Addr) (n c : Nat) (l : List Nd) (kind : Int) (w : World) (hr : Nodes w B A n l) (hn : n ≤ 1000000) (hB : B ≤ w.heap.size) :
    Calls Tryd.prog 38 #[.slice A n c,.int .i64 kind] w fun e w' => ∃ v,e = .returned v ∧ Own w' w.heap.size 3 v ((argsL l kind).map intV) ∧ Below w.heap.size w w':=by
  have HR:=kp hr
  have HLn:=kp hr.1.len
  clear hr
  go_enter Tryd.func38,Tryd.ntmps38
  go_wp2
  go_loopw [5,10] (fun v5 v10 wr => ∃ i : Nat,i ≤ n ∧ v10 = .int .i64 i ∧ Own wr w.heap.size 3 v5 ((argsL (l.take i) kind).map intV) ∧ Below w.heap.size w wr) (fun _ v10 _ => n - (intOf v10).toNat)
  case atStart => exact ⟨0,by omega,rfl,Own.nil _ _ _,Below.refl _ _⟩
  case round =>
    obtain ⟨i,hi,rfl,hown,hbw⟩:=hrel
    have HOwn:=kp hown;have HBw:=kp hbw
    have hsz:=hbw.size
    have hal:=yJ (l.take i) kind
    rw [List.length_take,HLn.out] at hal
    by_cases hlt : i < n
    · obtain ⟨ad,x,rfl,_,hx,_,hn0,hn1,hn2,hn3⟩:=(HR.out.keep (w':=wr) fun p hp => hbw.cell (by omega)).get hlt
      have HS:=kp (JB kind hx)
      clear hown hbw hx
      by_cases hk : x.kind = kind
      · have hkb : (x.kind == kind) = true:=by simpa using hk
        have HE : Kept (argsL (l.take (i + 1)) kind = argsL (l.take i) kind ++ [x.arg]):=kp (by rw [HS.out,if_pos hk])
        clear hk HS
        go_wp2_with (first
          | ((with_reducible show Sl 7);go_must (refine j6 rfl 63 rfl (ndC ⟨0,0,0,0⟩) jZ ?_);intro g5 w6 hg5 hk6 hw6;have HG5:=kp hg5;have HK6:=kp hk6;have HW6:=kp hw6;clear hg5 hk6 hw6)
          | ((with_reducible show Sn);go_must (refine j7 rfl 63 (.tmp 7) (.tmp 13) rfl g5 (ndC x) rfl rfl _ _ HK6.out jE rfl (l0 x) ?_);intro w7 hk7 hg7 hs7
             obtain ⟨hx0,hx1,hx2,hx3⟩:=jB hk7
             have HBq7:=kp (HW6.out.grown hg7 HW6.out.size (fun k hk => by cases hk;exact HG5.out))
             have HO7:=kp (HOwn.out.below HBq7.out (Nat.le_refl _))
             have HB7:=kp (HBw.out.trans (HBq7.out.mono hsz))
             have hsz7:=HB7.out.size
             clear hk7 hg7 hs7 hn0 hn1 hn2 hn3)
          | (at_builtin;go_must (refine jQ rfl (.tmp 18) (.tmp 21) 74 rfl w.heap.size 3 _ _ Tryd.underlying74 q5 rfl _ _ _ _ rfl HO7.out _ 1 rfl rfl rfl (by simp [maxLen];omega) (by simp;omega) hsz7 ?_);intro v1 w8 hown1 hg1;have HO8:=kp hown1;clear hown1;have HG8:=kp hg1;clear hg1))
        go_roundw
        case rel => exact ⟨i + 1,by omega,by go_num,by rw [HE.out,List.map_append];exact HO8.out,HG8.out.below HB7.out HO7.out hsz7⟩
        case measure => simp [intOf];omega
      · have hkb : (x.kind == kind) = false:=by simpa using hk
        have HE : Kept (argsL (l.take (i + 1)) kind = argsL (l.take i) kind):=kp (by rw [HS.out,if_neg hk,List.append_nil])
        clear hk HS
        go_wp2_with (first
          | ((with_reducible show Sl 7);go_must (refine j6 rfl 63 rfl (ndC ⟨0,0,0,0⟩) jZ ?_);intro g5 w6 hg5 hk6 hw6;have HG5:=kp hg5;have HK6:=kp hk6;have HW6:=kp hw6;clear hg5 hk6 hw6)
          | ((with_reducible show Sn);go_must (refine j7 rfl 63 (.tmp 7) (.tmp 13) rfl g5 (ndC x) rfl rfl _ _ HK6.out jE rfl (l0 x) ?_);intro w7 hk7 hg7 hs7
             obtain ⟨hx0,hx1,hx2,hx3⟩:=jB hk7
             have HBq7:=kp (HW6.out.grown hg7 HW6.out.size (fun k hk => by cases hk;exact HG5.out))
             have HO7:=kp (HOwn.out.below HBq7.out (Nat.le_refl _))
             have HB7:=kp (HBw.out.trans (HBq7.out.mono hsz))
             clear hk7 hg7 hs7 hn0 hn1 hn2 hn3))
        go_roundw
        case rel => exact ⟨i + 1,by omega,by go_num,by rw [HE.out];exact HO7.out,HB7.out⟩
        case measure => simp [intOf];omega
    · have HE : Kept (argsL (l.take i) kind = argsL l kind):=kp (by rw [List.take_of_length_le (by rw [HLn.out];omega)])
      have hge : n ≤ i:=by omega
      clear hown hbw hlt
      go_wp2
      go_ret
      exact ⟨_,rfl,by rw [← HE.out];exact HOwn.out,HBw.out⟩
theorem lZ (x : Int) : BitsAre (S.one x) (fun id => (id : Int) = x):=by
  refine ⟨S.one_lt x,fun id hid => ?_⟩
  by_cases h : 0 ≤ x ∧ x ≤ 31
  · obtain ⟨k,rfl⟩ : ∃ k : Nat,x = (k : Int):=⟨x.toNat,by omega⟩
    rw [S.one_nat k (by omega),Nat.testBit_two_pow,decide_eq_true_eq]
    omega
  · rw [S.one_out x (by omega),Nat.zero_testBit]
    constructor
    · intro h2;cases h2
    · intro h2;omega
set_option maxRecDepth 100000 in
set_option maxHeartbeats 800000 in
theorem xQ (B : Nat) (A : Option Addr) (n c : Nat) (l : List Int) (w : World) (hr : Row intV w B A n l) (hl : ∀ x ∈ l,I64 x) (hn : n ≤ 1000000) :
    Calls Tryd.prog 37 #[.slice A n c] w fun e w' => ∃ m : Nat,e = .returned (.int .u32 (m : Int)) ∧ BitsAre m (fun id => (id : Int) ∈ l) ∧ w = w':=by
  have HR:=kp hr;have HL:=kp hl
  have HLn:=kp hr.len
  clear hr hl
  go_enter Tryd.func37,Tryd.ntmps37
  go_wp2
  go_loop [3,8] (fun v3 v8 => ∃ i q : Nat,i ≤ n ∧ v8 = .int .i64 i ∧ v3 = .int .u32 (q : Int) ∧ BitsAre q (fun id => (id : Int) ∈ l.take i)) (fun _ v8 => n - (intOf v8).toNat)
  case atStart => exact ⟨0,0,by omega,rfl,rfl,lG.congr fun id _ => by simp⟩
  case round =>
    obtain ⟨i,q,hi,rfl,rfl,hq⟩:=hrel
    have HQ:=kp hq
    have hqlt : q < 4294967296:=hq.1
    clear hq
    by_cases hlt : i < n
    · obtain ⟨ad,x,rfl,_,hx,hcx⟩:=HR.out.get hlt
      rw [qT] at hcx
      have HX:=kp hx
      have HX64:=kp (HL.out x (List.mem_of_getElem? hx))
      obtain ⟨o,ho⟩ : ∃ o,S.one x = o:=⟨_,rfl⟩
      have holt : o < 4294967296:=by rw [← ho];exact S.one_lt x
      have HBt : Kept (bits .or .u32 (q : Int) (o : Int) = ((q ||| o : Nat) : Int)):=kp <| u32_or_nat q o hqlt holt
      have HO:=kp ho
      have HN : Kept (BitsAre (q ||| o) (fun id => (id : Int) ∈ l.take (i + 1))):=kp <| by
        rw [← ho]
        refine (y1 HQ.out (lZ x)).congr fun id _ => ?_
        rw [List.take_add_one,hx,Option.toList_some,List.mem_append,List.mem_singleton]
      clear ho hx
      go_wp2_with (go_at_call 20;go_must (refine (lK x HX64.out o HO.out _).mono ?_);rintro e' w' ⟨rfl,rfl⟩)
      go_round
      case rel => exact ⟨i + 1,q ||| o,by omega,by go_num,by rw [HBt.out],HN.out⟩
      case measure => simp [intOf];omega
    · have HE : Kept (l.take i = l):=kp (List.take_of_length_le (by rw [HLn.out];omega))
      have hge : n ≤ i:=by omega
      clear hlt
      go_wp2
      go_ret
      exact ⟨q,rfl,by rw [← HE.out];exact HQ.out,rfl⟩
theorem LX {a b : Int} {x : Nd} (h : x.kind = a ∨ x.kind = b) : BitsAre (S.one x.arg) (Tl a b x) :=
  (lZ x.arg).congr fun id _ => by
    unfold Tl
    constructor
    · intro e;exact ⟨h,e.symm⟩
    · intro e;exact e.2.symm
theorem LF {a b : Int} {x : Nd} (h : ¬ (x.kind = a ∨ x.kind = b)) : BitsAre 0 (Tl a b x):=lG.congr fun id _ => by simp [Tl,h]
set_option maxRecDepth 100000 in
set_option maxHeartbeats 800000 in
theorem yM (x : Nd) (hx : x.Ok) (w : World) :
    Calls Tryd.prog 36 #[ndA x] w fun e w' => ∃ m : Nat,e = .returned (.int .u32 (m : Int)) ∧ BitsAre m (Tl 4 4 x) ∧ Below w.heap.size w w':=by
  rw [show ndA x = .agg (ndC x).toArray from rfl]
  by_cases h : x.kind = 4
  · have hk : (x.kind == 4) = true:=by simpa using h
    have HB:=kp (LX (a:=4) (b:=4) (x:=x) (.inl h))
    clear h
    go_enter Tryd.func36,Tryd.ntmps36
    go_wp2_with (first
      | ((with_reducible refine j4 rfl 63 (.tmp 0) rfl (ndC x) rfl ?_);intro g1 w1 hg1 hk1 hw1;obtain ⟨hc0,hc1,hc2,hc3⟩:=jB hk1;have HW1:=kp hw1;clear hg1 hk1 hw1)
      | (go_at_call 20;go_must (refine (lK x.arg hx.arg _ rfl _).mono ?_);rintro e w2 ⟨rfl,rfl⟩))
    go_ret
    exact ⟨_,rfl,HB.out,HW1.out⟩
  · have hk : (x.kind == 4) = false:=by simpa using h
    have HB:=kp (LF (a:=4) (b:=4) (x:=x) (by omega))
    clear h
    go_enter Tryd.func36,Tryd.ntmps36
    go_wp2_with ((with_reducible refine j4 rfl 63 (.tmp 0) rfl (ndC x) rfl ?_);intro g1 w1 hg1 hk1 hw1;obtain ⟨hc0,hc1,hc2,hc3⟩:=jB hk1;have HW1:=kp hw1;clear hg1 hk1 hw1)
    go_ret
    exact ⟨0,rfl,HB.out,HW1.out⟩
def Teller (F : Nat) (a b : Int) : Prop:=F = 36 ∧ a = 4 ∧ b = 4
theorem J1 {F : Nat} {a b : Int} (hF : Teller F a b) (x : Nd) (hx : x.Ok) (n : Nat) (hn : BitsAre n (Tl a b x)) (w : World) :
    Calls Tryd.prog F #[ndA x] w fun e w' => e = .returned (.int .u32 (n : Int)) ∧ Below w.heap.size w w':=by
  obtain ⟨rfl,rfl,rfl⟩:=hF
  refine (yM x hx w).mono ?_
  rintro e w' ⟨m,rfl,hm,hb⟩
  rw [hm.uniq hn]
  exact ⟨rfl,hb⟩
def HOk (p : Pg) (l : List Nat) (h : List Int) : Prop:=h.Nodup ∧ (∀ x ∈ h,∃ g : Nat,x = (g : Int) ∧ g < p.len ∧ Free p l g) ∧ ∀ g : Nat,g < p.len → Free p l g → (g : Int) ∈ h
def HAt (p : Pg) (l : List Nat) (f : Nat) (h : List Int) (k : Nat) : Prop:=h.Nodup ∧ (∀ x ∈ h,∃ g : Nat,x = (g : Int) ∧ g < p.len ∧ Free p (l ++ [f]) g ∧ (g < k ∨ Free p l g)) ∧ ∀ g : Nat,g < p.len → Free p (l ++ [f]) g → (g < k ∨ Free p l g) → (g : Int) ∈ h
def MsAt (p : Pg) (l : List Nat) (f : Nat) (ms : List Nat) (k : Nat) : Prop:=ms.length = p.len ∧ ∀ g m : Nat,ms[g]? = some m → BitsAre m (fun y => Q.calls p g y ∧ y ∉ if g < k then l ++ [f] else l)
def MsOk (p : Pg) (l : List Nat) (ms : List Nat) : Prop:=ms.length = p.len ∧ ∀ g m : Nat,ms[g]? = some m → BitsAre m (fun y => Q.calls p g y ∧ y ∉ l)
def HFirst (p : Pg) (h : List Int) (i : Nat) : Prop:=h.Nodup ∧ (∀ x ∈ h,∃ g : Nat,x = (g : Int) ∧ g < p.len ∧ Free p [] g ∧ g < i) ∧ ∀ g : Nat,g < p.len → Free p [] g → g < i → (g : Int) ∈ h
theorem zG {h : List Int} {n : Nat} (hn : h.Nodup) (hm : ∀ x ∈ h,∃ g : Nat,x = (g : Int) ∧ g < n) : h.length ≤ n:=by
  have h1:=hn.length_le_of_subset (l₂:=(List.range n).map fun g : Nat => (g : Int)) (fun x hx => by
    obtain ⟨g,rfl,hg⟩:=hm x hx
    exact List.mem_map.2 ⟨g,List.mem_range.2 hg,rfl⟩)
  simpa using h1
theorem HOk.len {p : Pg} {l : List Nat} {h : List Int} (k : HOk p l h) : h.length ≤ p.len:=zG k.1 fun x hx => by
  obtain ⟨g,e,hg,_⟩:=k.2.1 x hx
  exact ⟨g,e,hg⟩
theorem HAt.len {p : Pg} {l : List Nat} {f : Nat} {h : List Int} {i : Nat} (k : HAt p l f h i) : h.length ≤ p.len:=zG k.1 fun x hx => by
  obtain ⟨g,e,hg,_⟩:=k.2.1 x hx
  exact ⟨g,e,hg⟩
theorem HFirst.len {p : Pg} {h : List Int} {i : Nat} (k : HFirst p h i) : h.length ≤ p.len:=zG k.1 fun x hx => by
  obtain ⟨g,e,hg,_⟩:=k.2.1 x hx
  exact ⟨g,e,hg⟩
theorem uG {p : Pg} {l : List Nat} (hlen : p.fns.length = p.len) (h : IsOrd p l) : l.length ≤ p.len:=by
  have h1:=(yS h).length_le_of_subset (l₂:=List.range p.len) (fun x hx => by
    obtain ⟨k,hk⟩:=List.mem_iff_getElem?.1 hx
    have:=(h k x hk).1
    exact List.mem_range.2 (by omega))
  simpa using h1
theorem JY {p : Pg} {g : Nat} : Free p [] g ↔ ∀ y,¬ Q.calls p g y:=by
  unfold Free
  simp
theorem uM {m : Nat} {P : Nat → Prop} (h : BitsAre m P) (hP : ∀ y,P y → y < 32) : m = 0 ↔ ∀ y,¬ P y:=by
  constructor
  · rintro rfl y hy
    have:=(h.2 y (hP y hy)).2 hy
    rw [Nat.zero_testBit] at this;cases this
  · intro hno
    exact h.uniq (lG.congr fun y _ => ⟨False.elim,fun hy => hno y hy⟩)
theorem HFirst.start (p : Pg) : HFirst p [] 0:=⟨List.nodup_nil,fun x hx => (by cases hx),fun g _ _ hg => by omega⟩
theorem HFirst.push {p : Pg} {h h' : List Int} {i : Nat} (k : HFirst p h i) (hp : h'.Perm ((i : Int) :: h)) (hi : i < p.len) (hf : Free p [] i) : HFirst p h' (i + 1):=by
  refine ⟨hp.symm.nodup (List.nodup_cons.2 ⟨fun hm => ?_,k.1⟩),fun x hx => ?_,fun g hg hfg hgi => hp.mem_iff.2 (List.mem_cons.2 ?_)⟩
  · obtain ⟨g,e,_,_,hlt⟩:=k.2.1 _ hm
    omega
  · rcases List.mem_cons.1 (hp.mem_iff.1 hx) with rfl | hx
    · exact ⟨i,rfl,hi,hf,by omega⟩
    · obtain ⟨g,e,hg,hf,hlt⟩:=k.2.1 x hx
      exact ⟨g,e,hg,hf,by omega⟩
  · by_cases e : g = i
    · subst e;exact .inl rfl
    · exact .inr (k.2.2 g hg hfg (by omega))
theorem HFirst.skip {p : Pg} {h : List Int} {i : Nat} (k : HFirst p h i) (hn : ¬ Free p [] i) : HFirst p h (i + 1):=by
  refine ⟨k.1,fun x hx => ?_,fun g hg hf hgi => ?_⟩
  · obtain ⟨g,e,hg,hf,hlt⟩:=k.2.1 x hx
    exact ⟨g,e,hg,hf,by omega⟩
  · by_cases e : g = i
    · subst e;exact absurd hf hn
    · exact k.2.2 g hg hf (by omega)
theorem HFirst.done {p : Pg} {h : List Int} (k : HFirst p h p.len) : HOk p [] h:=⟨k.1,fun x hx => by
    obtain ⟨g,e,hg,hf,_⟩:=k.2.1 x hx
    exact ⟨g,e,hg,hf⟩,fun g hg hf => k.2.2 g hg hf hg⟩
theorem J3 {p : Pg} {l : List Nat} {f g : Nat} (h : Free p l g) (hne : g ≠ f) : Free p (l ++ [f]) g :=
  ⟨fun hm => by
    rcases List.mem_append.1 hm with h1 | h1
    · exact h.1 h1
    · exact hne (List.mem_singleton.1 h1),fun y hy => List.mem_append_left _ (h.2 y hy)⟩
theorem HAt.start {p : Pg} {l : List Nat} {f : Nat} {h h' : List Int} (k : HOk p l h) (hp : h.Perm ((f : Int) :: h')) : HAt p l f h' 0:=by
  have hnd:=List.nodup_cons.1 (hp.nodup k.1)
  refine ⟨hnd.2,fun x hx => ?_,fun g hg hf h0 => ?_⟩
  · obtain ⟨g,e,hg,hf⟩:=k.2.1 x (hp.mem_iff.2 (List.mem_cons_of_mem _ hx))
    exact ⟨g,e,hg,J3 hf (fun e2 => hnd.1 (by rw [← e2,← e];exact hx)),.inr hf⟩
  · have h1:=h0.resolve_left (by omega)
    have h2:=hp.mem_iff.1 (k.2.2 g hg h1)
    rcases List.mem_cons.1 h2 with h2 | h2
    · exfalso
      have : g = f:=by omega
      subst this
      exact hf.1 (List.mem_append_right _ (List.mem_singleton.2 rfl))
    · exact h2
theorem HAt.push {p : Pg} {l : List Nat} {f : Nat} {h h' : List Int} {i : Nat} (k : HAt p l f h i) (hp : h'.Perm ((i : Int) :: h)) (hi : i < p.len) (hf : Free p (l ++ [f]) i) (hn : ¬ Free p l i) : HAt p l f h' (i + 1):=by
  refine ⟨hp.symm.nodup (List.nodup_cons.2 ⟨fun hm => ?_,k.1⟩),fun x hx => ?_,fun g hg hfg hgi => hp.mem_iff.2 (List.mem_cons.2 ?_)⟩
  · obtain ⟨g,e,_,_,hlt⟩:=k.2.1 _ hm
    have : g = i:=by omega
    subst this
    rcases hlt with hlt | hlt
    · omega
    · exact hn hlt
  · rcases List.mem_cons.1 (hp.mem_iff.1 hx) with rfl | hx
    · exact ⟨i,rfl,hi,hf,.inl (by omega)⟩
    · obtain ⟨g,e,hg,hf,hlt⟩:=k.2.1 x hx
      exact ⟨g,e,hg,hf,hlt.imp_left fun h => by omega⟩
  · by_cases e : g = i
    · subst e;exact .inl rfl
    · exact .inr (k.2.2 g hg hfg (hgi.imp_left fun h => by omega))
theorem HAt.skip {p : Pg} {l : List Nat} {f : Nat} {h : List Int} {i : Nat} (k : HAt p l f h i) (hn : ¬ (Free p (l ++ [f]) i ∧ ¬ Free p l i)) : HAt p l f h (i + 1):=by
  refine ⟨k.1,fun x hx => ?_,fun g hg hfg hgi => ?_⟩
  · obtain ⟨g,e,hg,hf,hlt⟩:=k.2.1 x hx
    exact ⟨g,e,hg,hf,hlt.imp_left fun h => by omega⟩
  · by_cases e : g = i
    · subst e
      refine k.2.2 g hg hfg (.inr (Classical.byContradiction fun h2 => hn ⟨hfg,h2⟩))
    · exact k.2.2 g hg hfg (hgi.imp_left fun h => by omega)
theorem HAt.done {p : Pg} {l : List Nat} {f : Nat} {h : List Int} (k : HAt p l f h p.len) : HOk p (l ++ [f]) h:=⟨k.1,fun x hx => by
    obtain ⟨g,e,hg,hf,_⟩:=k.2.1 x hx
    exact ⟨g,e,hg,hf⟩,fun g hg hf => k.2.2 g hg hf (.inl hg)⟩
theorem JO {p : Pg} {l : List Nat} {f k m : Nat} (hfine : Fine p) (hlen : p.fns.length = p.len) (hord : IsOrd p (l ++ [f])) (hm : BitsAre m (fun y => Q.calls p k y ∧ y ∉ l)) : m = S.one (f : Int) ↔ Free p (l ++ [f]) k ∧ ¬ Free p l k:=by
  have hf16 : p.fns.length ≤ 16:=hfine.counts.f.2
  have hlast:=hord l.length f (by simp)
  rw [List.take_left' rfl] at hlast
  have hff : Free p l f:=hlast.2.1
  have hf32 : f < 32:=by have:=hlast.1;omega
  have hcl : ∀ y,Q.calls p k y → y < 32:=fun y hy => by have:=qV hfine hlen hy;omega
  constructor
  · rintro rfl
    have hb : ∀ y,y < 32 → (Q.calls p k y ∧ y ∉ l ↔ y = f):=fun y hy => (hm.2 y hy).symm.trans (((lZ (f : Int)).2 y hy).trans (by omega))
    have hkf:=(hb f hf32).2 rfl
    refine ⟨⟨fun hk => ?_,fun y hy => ?_⟩,fun h => hkf.2 (h.2 f hkf.1)⟩
    · rcases List.mem_append.1 hk with hk | hk
      · obtain ⟨j,hj⟩:=List.mem_iff_getElem?.1 hk
        have hjl:=(List.getElem?_eq_some_iff.1 hj).1
        have h1:=hord j k (by rw [List.getElem?_append_left hjl];exact hj)
        have h2:=h1.2.1.2 f hkf.1
        rw [List.take_append_of_le_length (by omega)] at h2
        exact hkf.2 (List.mem_of_mem_take h2)
      · have : k = f:=List.mem_singleton.1 hk
        subst this
        exact hkf.2 (hff.2 k hkf.1)
    · by_cases hyl : y ∈ l
      · exact List.mem_append_left _ hyl
      · exact List.mem_append_right _ (List.mem_singleton.2 ((hb y (hcl y hy)).1 ⟨hy,hyl⟩))
  · rintro ⟨h1,h2⟩
    have hkl : k ∉ l:=fun h => h1.1 (List.mem_append_left _ h)
    have hy : ∃ y,Q.calls p k y ∧ y ∉ l:=Classical.byContradiction fun hno => h2 ⟨hkl,fun y hy => Classical.byContradiction fun hyl => hno ⟨y,hy,hyl⟩⟩
    obtain ⟨y,hy,hyl⟩:=hy
    have only : ∀ z,Q.calls p k z → z ∉ l → z = f:=fun z hz hzl => by
      rcases List.mem_append.1 (h1.2 z hz) with h | h
      · exact absurd h hzl
      · exact List.mem_singleton.1 h
    have hyf:=only y hy hyl
    subst hyf
    refine hm.uniq ((lZ (y : Int)).congr fun z _ => ?_)
    constructor
    · intro e
      have : z = y:=by omega
      subst this
      exact ⟨hy,hyl⟩
    · rintro ⟨h3,h4⟩
      rw [only z h3 h4]
theorem MsOk.start {p : Pg} {ms : List Nat} (hl : ms.length = p.len) (hlen : p.fns.length = p.len) (h : ∀ (f : Nat) (fn : Fn) (m : Nat),p.fns[f]? = some fn → ms[f]? = some m → BitsAre m (Names fn.nodes 7)) : MsOk p [] ms:=by
  refine ⟨hl,fun g m hm => ?_⟩
  have hg : g < p.fns.length:=by have:=(List.getElem?_eq_some_iff.1 hm).1;omega
  have hfn : p.fns[g]? = some p.fns[g]:=List.getElem?_eq_getElem hg
  refine (h g _ m hfn hm).congr fun y _ => ?_
  constructor
  · rintro h1
    exact ⟨⟨_,hfn,h1⟩,by simp⟩
  · rintro ⟨⟨f',h1,h2⟩,_⟩
    rw [hfn] at h1;cases h1
    exact h2
theorem MsAt.start {p : Pg} {l : List Nat} {ms : List Nat} (f : Nat) (h : MsOk p l ms) : MsAt p l f ms 0:=⟨h.1,fun g m hm => (h.2 g m hm).congr fun y _ => by rw [if_neg (by omega)]⟩
theorem MsAt.done {p : Pg} {l : List Nat} {f : Nat} {ms : List Nat} (h : MsAt p l f ms p.len) : MsOk p (l ++ [f]) ms:=⟨h.1,fun g m hm => (h.2 g m hm).congr fun y _ => by rw [if_pos (by have:=(List.getElem?_eq_some_iff.1 hm).1;rw [h.1] at this;exact this)]⟩
theorem zM {m : Nat} {P : Nat → Prop} (h : BitsAre m P) (x : Int) : BitsAre (m &&& (4294967295 - S.one x)) (fun id => P id ∧ (id : Int) ≠ x):=by
  have ho:=S.one_lt x
  refine ⟨Nat.lt_of_le_of_lt Nat.and_le_left h.1,fun id hid => ?_⟩
  rw [Nat.testBit_and,Bool.and_eq_true,h.2 id hid]
  have e : 4294967295 - S.one x = 2 ^ 32 - (S.one x + 1):=by omega
  rw [e,Nat.testBit_two_pow_sub_succ ho,Bool.and_eq_true,decide_eq_true_eq,Bool.not_eq_true']
  have h1:=(lZ x).2 id hid
  constructor
  · rintro ⟨h2,_,h3⟩
    exact ⟨h2,fun e2 => by rw [h1.2 e2] at h3;cases h3⟩
  · rintro ⟨h2,h3⟩
    refine ⟨h2,hid,?_⟩
    cases hb : (S.one x).testBit id
    · rfl
    · exact absurd (h1.1 hb) h3
theorem MsAt.step {p : Pg} {l : List Nat} {f k m : Nat} {ms : List Nat} (h : MsAt p l f ms k) (hk : ms[k]? = some m) : MsAt p l f (ms.set k (m &&& (4294967295 - S.one (f : Int)))) (k + 1):=by
  refine ⟨by rw [List.length_set];exact h.1,fun g m' hm' => ?_⟩
  rw [List.getElem?_set] at hm'
  by_cases e : k = g
  · subst e
    have hkl:=(List.getElem?_eq_some_iff.1 hk).1
    rw [if_pos rfl,if_pos hkl] at hm'
    cases hm'
    have h1:=h.2 k m hk
    refine (zM h1 (f : Int)).congr fun y _ => ?_
    rw [if_neg (show ¬ k < k by omega),if_pos (show k < k + 1 by omega),List.mem_append,List.mem_singleton]
    constructor
    · rintro ⟨⟨h2,h3⟩,h4⟩
      exact ⟨h2,fun h5 => h5.elim h3 fun e => h4 (by rw [e])⟩
    · rintro ⟨h2,h3⟩
      exact ⟨⟨h2,fun h4 => h3 (.inl h4)⟩,fun e => h3 (.inr (by omega))⟩
  · rw [if_neg e] at hm'
    refine (h.2 g m' hm').congr fun y _ => ?_
    by_cases h2 : g < k
    · rw [if_pos h2,if_pos (show g < k + 1 by omega)]
    · rw [if_neg h2,if_neg (show ¬ g < k + 1 by omega)]
end Go.Proofs.YtlgaefenhfmjfaaDoor
namespace Go.Proofs.YtlgaefenhfmjfaaDoor
namespace H
def at_ (l : List Int) (i : Nat) : Int:=l.getD i 0
def swap (l : List Int) (i j : Nat) : List Int:=(l.set i (at_ l j)).set j (at_ l i)
theorem swap_len (l : List Int) (i j : Nat) : (swap l i j).length = l.length:=by simp [swap]
theorem at_some {l : List Int} {i : Nat} (h : i < l.length) : l[i]? = some (at_ l i):=by
  unfold at_
  rw [List.getD_eq_getElem?_getD,List.getElem?_eq_getElem h];rfl
theorem at_of {l : List Int} {i : Nat} {x : Int} (h : l[i]? = some x) : at_ l i = x:=by
  unfold at_
  rw [List.getD_eq_getElem?_getD,h];rfl
theorem at_swap {l : List Int} {i j : Nat} (hi : i < l.length) (hj : j < l.length) (k : Nat) : at_ (swap l i j) k = if k = j then at_ l i else if k = i then at_ l j else at_ l k:=by
  unfold swap
  by_cases hk : k < l.length
  · have h1 : k < ((l.set i (at_ l j)).set j (at_ l i)).length:=by simpa using hk
    have h2:=at_some h1
    rw [List.getElem?_set,List.getElem?_set] at h2
    by_cases hkj : k = j
    · subst hkj
      rw [if_pos rfl,if_pos (by simpa using hk)] at h2
      rw [if_pos rfl]
      exact (Option.some.inj h2).symm
    · rw [if_neg (fun e => hkj e.symm)] at h2
      rw [if_neg hkj]
      by_cases hki : k = i
      · subst hki
        rw [if_pos rfl,if_pos hk] at h2
        rw [if_pos rfl]
        exact (Option.some.inj h2).symm
      · rw [if_neg (fun e => hki e.symm)] at h2
        rw [if_neg hki]
        exact (at_of h2)▸ rfl
  · rw [if_neg (by omega),if_neg (by omega)]
    have none_ : ∀ q : List Int,q.length ≤ k → at_ q k = 0:=fun q hq => by
      unfold at_
      rw [List.getD_eq_getElem?_getD,List.getElem?_eq_none hq];rfl
    rw [none_ _ (by simp;omega),none_ _ (by omega)]
theorem swap_perm {l : List Int} {i j : Nat} (hi : i < l.length) (hj : j < l.length) : (swap l i j).Perm l:=by
  have h1 : at_ l i = l[i]:=by unfold at_;rw [List.getD_eq_getElem?_getD,List.getElem?_eq_getElem hi];rfl
  have h2 : at_ l j = l[j]:=by unfold at_;rw [List.getD_eq_getElem?_getD,List.getElem?_eq_getElem hj];rfl
  unfold swap
  rw [h1,h2]
  exact List.set_set_perm hi hj
theorem swap_drop {l : List Int} {i j n : Nat} (hi : i < n) (hj : j < n) : (swap l i j).drop n = l.drop n:=by
  unfold swap
  rw [List.drop_set_of_lt hj,List.drop_set_of_lt hi]
def Heap (l : List Int) (n : Nat) : Prop:=∀ k,0 < k → k < n → at_ l ((k - 1) / 2) ≤ at_ l k
def Up (l : List Int) (n j : Nat) : Prop:=(∀ k,0 < k → k < n → k ≠ j → at_ l ((k - 1) / 2) ≤ at_ l k) ∧ ∀ k,0 < k → k < n → (k - 1) / 2 = j → 0 < j → at_ l ((j - 1) / 2) ≤ at_ l k
def Down (l : List Int) (n i : Nat) : Prop:=(∀ k,0 < k → k < n → (k - 1) / 2 ≠ i → at_ l ((k - 1) / 2) ≤ at_ l k) ∧ ∀ k,0 < k → k < n → (k - 1) / 2 = i → 0 < i → at_ l ((i - 1) / 2) ≤ at_ l k
theorem heap_nil (l : List Int) : Heap l 0:=fun k _ h => by omega
theorem up_zero {l : List Int} {n : Nat} (h : Up l n 0) : Heap l n:=fun k h0 hk => h.1 k h0 hk (by omega)
theorem up_done {l : List Int} {n j : Nat} (h : Up l n j) (hle : at_ l ((j - 1) / 2) ≤ at_ l j) : Heap l n:=fun k h0 hk => by
  by_cases hkj : k = j
  · subst hkj;exact hle
  · exact h.1 k h0 hk hkj
theorem up_step {l : List Int} {n i j : Nat} (h : Up l n j) (h0 : 0 < j) (hj : j < n) (hn : n ≤ l.length) (hi : i = (j - 1) / 2) (hlt : at_ l j < at_ l i) : Up (swap l i j) n i:=by
  have hij : i < j:=by omega
  have sw:=at_swap (l:=l) (i:=i) (j:=j) (by omega) (by omega)
  subst hi
  refine ⟨fun k hk0 hk hki => ?_,fun k hk0 hk hp hi0 => ?_⟩
  · rw [sw k,sw ((k - 1) / 2)]
    by_cases hkj : k = j
    · subst hkj
      rw [if_neg (by omega),if_pos rfl,if_pos rfl]
      omega
    · rw [if_neg hkj,if_neg hki]
      have h1:=h.1 k hk0 hk hkj
      by_cases hpj : (k - 1) / 2 = j
      · rw [if_pos hpj]
        exact h.2 k hk0 hk hpj h0
      · rw [if_neg hpj]
        by_cases hpi : (k - 1) / 2 = (j - 1) / 2
        · rw [if_pos hpi]
          rw [hpi] at h1
          omega
        · rw [if_neg hpi];exact h1
  · rw [sw k,sw (((j - 1) / 2 - 1) / 2),if_neg (by omega),if_neg (by omega)]
    have h1:=h.1 ((j - 1) / 2) hi0 (by omega) (by omega)
    by_cases hkj : k = j
    · rw [if_pos hkj];exact h1
    · rw [if_neg hkj,if_neg (by omega)]
      have h2:=h.1 k hk0 hk hkj
      rw [hp] at h2
      omega
theorem down_none {l : List Int} {n i : Nat} (h : Down l n i) (hn : n ≤ 2 * i + 1) : Heap l n:=fun k h0 hk => h.1 k h0 hk (by omega)
def Child (l : List Int) (n i j : Nat) : Prop:=j < n ∧ 0 < j ∧ (j - 1) / 2 = i ∧ ∀ k,0 < k → k < n → (k - 1) / 2 = i → at_ l j ≤ at_ l k
theorem child_left {l : List Int} {n i : Nat} (h1 : 2 * i + 1 < n) (h2 : n ≤ 2 * i + 2 ∨ at_ l (2 * i + 1) ≤ at_ l (2 * i + 2)) : Child l n i (2 * i + 1):=by
  refine ⟨h1,by omega,by omega,fun k h0 hk hp => ?_⟩
  by_cases hk1 : k = 2 * i + 1
  · subst hk1;omega
  · have : k = 2 * i + 2:=by omega
    subst this
    omega
theorem child_right {l : List Int} {n i : Nat} (h1 : 2 * i + 2 < n) (h2 : at_ l (2 * i + 2) < at_ l (2 * i + 1)) : Child l n i (2 * i + 2):=by
  refine ⟨h1,by omega,by omega,fun k h0 hk hp => ?_⟩
  by_cases hk1 : k = 2 * i + 1
  · subst hk1;omega
  · have : k = 2 * i + 2:=by omega
    subst this
    omega
theorem down_done {l : List Int} {n i j : Nat} (h : Down l n i) (hc : Child l n i j) (hle : at_ l i ≤ at_ l j) : Heap l n:=fun k h0 hk => by
  by_cases hp : (k - 1) / 2 = i
  · have:=hc.2.2.2 k h0 hk hp
    rw [hp];omega
  · exact h.1 k h0 hk hp
theorem down_step {l : List Int} {n i j : Nat} (h : Down l n i) (hc : Child l n i j) (hn : n ≤ l.length) (hlt : at_ l j < at_ l i) : Down (swap l i j) n j:=by
  obtain ⟨hjn,hj0,hji,hmin⟩:=hc
  have hij : i < j:=by omega
  have sw:=at_swap (l:=l) (i:=i) (j:=j) (by omega) (by omega)
  refine ⟨fun k hk0 hk hkp => ?_,fun k hk0 hk hp _ => ?_⟩
  · rw [sw k,sw ((k - 1) / 2),if_neg hkp]
    by_cases hkj : k = j
    · subst hkj
      rw [if_pos hji,if_pos rfl]
      omega
    · rw [if_neg hkj]
      by_cases hki : k = i
      · subst hki
        rw [if_neg (by omega),if_pos rfl]
        exact h.2 j hj0 hjn hji hk0
      · rw [if_neg hki]
        by_cases hpi : (k - 1) / 2 = i
        · rw [if_pos hpi]
          exact hmin k hk0 hk hpi
        · rw [if_neg hpi]
          exact h.1 k hk0 hk hpi
  · rw [hji,sw k,sw i,if_neg (by omega),if_pos rfl,if_neg (by omega),if_neg (by omega)]
    have h1:=h.1 k hk0 hk (by omega)
    rw [hp] at h1
    exact h1
theorem heap_min {l : List Int} {n : Nat} (h : Heap l n) : ∀ m k,k < m → k < n → at_ l 0 ≤ at_ l k:=by
  intro m
  induction m with
  | zero => intro k hk;omega
  | succ m ih =>
    intro k hkm hk
    by_cases h0 : k = 0
    · subst h0;omega
    · have h1:=h k (by omega) hk
      have h2:=ih ((k - 1) / 2) (by omega) (by omega)
      omega
theorem uL {l : List Int} {x : Int} {k : Nat} (h : k < l.length) : at_ (l ++ [x]) k = at_ l k:=by
  unfold at_
  rw [List.getD_eq_getElem?_getD,List.getD_eq_getElem?_getD,List.getElem?_append_left h]
theorem push_up {l : List Int} {n : Nat} (h : Heap l n) (hn : l.length = n) (x : Int) : Up (l ++ [x]) (n + 1) n:=by
  refine ⟨fun k h0 hk hkn => ?_,fun k h0 hk hp hn0 => by omega⟩
  rw [uL (by omega),uL (by omega)]
  exact h k h0 (by omega)
theorem pop_down {l : List Int} {n : Nat} (h : Heap l (n + 1)) (hn : l.length = n + 1) : Down (swap l 0 n) n 0:=by
  refine ⟨fun k h0 hk hkn => ?_,fun k h0 hk hp hn0 => by omega⟩
  have sw:=at_swap (l:=l) (i:=0) (j:=n) (by omega) (by omega)
  rw [sw k,sw ((k - 1) / 2),if_neg (by omega),if_neg (by omega),if_neg (by omega),if_neg (by omega)]
  exact h k h0 (by omega)
theorem heap_take {l : List Int} {n m : Nat} (h : Heap l n) (hn : n ≤ m) : Heap (l.take m) n:=fun k h0 hk => by
  have e : ∀ j,j < n → at_ (l.take m) j = at_ l j:=fun j hj => by
    unfold at_
    rw [List.getD_eq_getElem?_getD,List.getD_eq_getElem?_getD,List.getElem?_take,if_pos (by omega)]
  rw [e _ (by omega),e _ hk]
  exact h k h0 hk
end H
end Go.Proofs.YtlgaefenhfmjfaaDoor
namespace Go.Proofs.YtlgaefenhfmjfaaDoor
open Go.RowKit
structure Only (G : Nat → Prop) (w w' : World) : Prop where
  os : w'.os = w.os
  tape : w'.tape = w.tape
  output : w'.output = w.output
  size : w.heap.size ≤ w'.heap.size
  block : ∀ k,k < w.heap.size → ¬ G k → w'.heap[k]? = w.heap[k]?
theorem Only.refl (G : Nat → Prop) (w : World) : Only G w w:=⟨rfl,rfl,rfl,Nat.le_refl _,fun _ _ _ => rfl⟩
theorem Only.trans {G : Nat → Prop} {w w1 w2 : World} (h : Only G w w1) (k : Only G w1 w2) : Only G w w2 :=
  ⟨k.os.trans h.os,k.tape.trans h.tape,k.output.trans h.output,Nat.le_trans h.size k.size,fun i hi hg => (k.block i (Nat.lt_of_lt_of_le hi h.size) hg).trans (h.block i hi hg)⟩
theorem Only.of_below {G : Nat → Prop} {w w' : World} (h : Below w.heap.size w w') : Only G w w':=⟨h.os,h.tape,h.output,h.size,fun k hk _ => h.block k hk⟩
theorem Only.of_grown {G : Nat → Prop} {w w' : World} {g : Nat} (h : w.grownBy w' (some g)) (hg : G g) : Only G w w':=⟨h.os,h.tape,h.output,h.size,fun k hk hn => h.block k hk (by intro e;cases e;exact hn hg)⟩
theorem Only.below {G : Nat → Prop} {w w' : World} {B : Nat} (h : Only G w w') (hB : B ≤ w.heap.size) (hG : ∀ k,G k → B ≤ k) : Below B w w' :=
  ⟨h.os,h.tape,h.output,h.size,fun k hk => h.block k (by omega) fun hg => by have:=hG k hg;omega⟩
theorem Only.cell {G : Nat → Prop} {w w' : World} (h : Only G w w') {p : Addr} (hp : p.block < w.heap.size) (hg : ¬ G p.block) : w'.cell? p = w.cell? p:=World.cell?_of_block (w:=w) (h.block _ hp hg)
theorem Only.blk {G : Nat → Prop} {w w' : World} {g : Nat} {t : TypeId} {cs : List Value} (h : Only G w w') (hk : Blk w g t cs) (hg : ¬ G g) : Blk w' g t cs:=by
  unfold Blk;rw [h.block g hk.lt hg];exact hk
theorem Row.only {α : Type} {f : α → Value} {G : Nat → Prop} {w w' : World} {B n : Nat} {A : Option Addr} {l : List α} (h : Row f w B A n l) (ho : Only G w w') (hB : B ≤ w.heap.size) (hg : ∀ ad,0 < n → A = some ad → ¬ G ad.block) : Row f w' B A n l :=
  ⟨h.len,fun hn => by
    obtain ⟨ad,e,hb,hc⟩:=h.cells hn
    exact ⟨ad,e,hb,fun k hlt => (ho.cell (by rw [add_block];omega) (by rw [add_block];exact hg ad hn e)).trans (hc k hlt)⟩⟩
structure GFact (G : Nat → Prop) where
  holds : Value → World → Prop
  stays : ∀ v w w',Only G w w' → holds v w → holds v w'
def GFact.any (G : Nat → Prop) : GFact G:=⟨fun _ _ => True,fun _ _ _ _ h => h⟩
def GFact.is {G : Nat → Prop} (c : Value) : GFact G:=⟨fun v _ => v = c,fun _ _ _ _ h => h⟩
def GFact.bytes {G : Nat → Prop} (bs : List Nat) : GFact G :=
  ⟨fun v w => ∃ A cap,v = .slice A bs.length cap ∧ Row byteV w w.heap.size A bs.length bs ∧ ∀ ad,A = some ad → ¬ G ad.block,
   fun _ _ _ hb ⟨A,cap,hv,hr,hg⟩ => ⟨A,cap,hv,(hr.only hb (Nat.le_refl _) fun ad _ e => hg ad e).more hb.size,hg⟩⟩
def ActPost (G : Nat → Prop) (J : Nat → World → Prop) (p : Nat) (D : List Deferred) (W : World) (o : Oper) (R : GFact G) : Exit → Act → World → Prop
  | .normal,a,w => a.defers = D ∧ Only G W w ∧ J p w ∧ R.holds (slotOf o a) w
  | _,_,_ => False
def gfactAt {G : Nat → Prop} (R : List (GFact G)) (i : Nat) : GFact G:=R.getD i (.any G)
def ggiven {G : Nat → Prop} (R : List (GFact G)) (W : World) (T : Act → Prop) : List (Nat × Nat) → Act → Prop
  | [],a => T a
  | p :: ps,a => ∀ v,(gfactAt R p.1).holds v W → ggiven R W T ps (a.put (some p.2) v)
theorem q8 {G : Nat → Prop} {R : List (GFact G)} {W : World} {T : Act → Prop} {a : Act} : ∀ (ps : List (Nat × Nat)) (b : Act),ggiven R W T ps b → (∀ p ∈ ps,(gfactAt R p.1).holds (a.tmps.getD p.2 undef) W) → T (fill a ps b)
  | [],_,h,_ => h
  | p :: ps,_,h,hp => q8 ps _ (h _ (hp p (List.mem_cons_self))) fun q hq => hp q (List.mem_cons_of_mem _ hq)
def phase (acts : List Nat) (listed : Array Bool) : Nat:=acts.countP fun j => listed.getD j false
def rank (acts : List Nat) (i : Nat) : Nat:=acts.countP fun j => decide (j < i)
def actsOk (l : List Oper) (acts : List Nat) : Bool:=acts.all fun i => decide (i < l.length) && acts.all fun j => decide (i ≤ j) || ((masks l).getD i 0).testBit j
section
variable {P : Program} {l : List Oper} {Q : Exit → Act → World → Prop} {a0 : Act} {w : World} {G : Nat → Prop} {R : List (GFact G)} {J : Nat → World → Prop} {acts : List Nat} {D : List (List (Nat × Nat))} {every : List (Nat × Nat)}
structure GInv (l : List Oper) (acts : List Nat) (J : Nat → World → Prop) (R : List (GFact G)) (a0 : Act) (w : World) (listed : Array Bool) (a : Act) (W : World) : Prop where
  size : listed.size = l.length
  ext : Only G w W
  ph : J (phase acts listed) W
  defs : a.defers = a0.defers
  tsz : a.tmps.size = a0.tmps.size
  got : ∀ j oj d,l.toArray[j]? = some oj → oj.dst = some d → listed.getD j false = true → (gfactAt R j).holds (a.tmps.getD d undef) W
  old : ∀ t,(∀ j oj,l.toArray[j]? = some oj → oj.dst = some t → listed.getD j false = false) → a.tmps[t]? = a0.tmps[t]?
  shut : ∀ j oj,l.toArray[j]? = some oj → listed.getD j false = true → ∀ e ∈ oj.after,Region.binds .any e = true → listed.getD e.on false = true
theorem xN (acts : List Nat) (listed : Array Bool) (i : Nat) (h : i ∉ acts) : phase acts (listed.setIfInBounds i true) = phase acts listed:=by
  unfold phase
  refine List.countP_congr fun j hj => ?_
  have : i ≠ j:=fun e => h (by rw [e];exact hj)
  rw [getD_set_ne false this]
theorem JJ {acts : List Nat} {listed : Array Bool} {i : Nat} (hb : ∀ j ∈ acts,j < i → listed.getD j false = true) (ha : ∀ j ∈ acts,i ≤ j → listed.getD j false = false) : phase acts listed = rank acts i:=by
  unfold phase rank
  refine List.countP_congr fun j hj => ?_
  rcases Nat.lt_or_ge j i with h | h
  · rw [hb j hj h];simpa using h
  · rw [ha j hj h];simp;omega
theorem vX {acts : List Nat} {listed : Array Bool} {i : Nat} (hn : acts.Nodup) (hi : i ∈ acts) (hs : i < listed.size) (hf : listed.getD i false = false) : phase acts (listed.setIfInBounds i true) = phase acts listed + 1:=by
  unfold phase
  induction acts with
  | nil => cases hi
  | cons x r ih =>
    rw [List.nodup_cons] at hn
    rw [List.countP_cons,List.countP_cons]
    by_cases hx : x = i
    · subst hx
      have h1 : (listed.setIfInBounds x true).getD x false = true:=by simp [hs]
      have h2:=xN r listed x hn.1
      unfold phase at h2
      rw [h1,hf,h2];simp
    · have hir : i ∈ r:=by
        rcases List.mem_cons.1 hi with h | h
        · exact absurd h.symm hx
        · exact h
      rw [ih hn.2 hir,getD_set_ne false (Ne.symm hx)]
      omega
theorem JD (hok : ∀ i o,l[i]? = some o → ∀ e ∈ o.after,Region.binds .any e = true → e.on < i) (hacts : actsOk l acts = true) {listed : Array Bool} {a : Act} {W : World} {i : Nat} {o : Oper} (hi : l[i]? = some o) (ha : i ∈ acts)
    (h : GInv l acts J R a0 w listed a W) (hall : ∀ e ∈ o.after,Region.binds .any e = true → listed.getD e.on false = true) (hlf : listed.getD i false = false) : phase acts listed = rank acts i:=by
  have hshut : ∀ j oj,l[j]? = some oj → listed.getD j false = true → ∀ e ∈ oj.after,Region.binds .any e = true → listed.getD e.on false = true:=fun j oj hj => h.shut j oj (by simpa using hj)
  unfold actsOk at hacts
  have h1:=List.all_eq_true.1 hacts i ha
  rw [Bool.and_eq_true] at h1
  refine JJ (fun j hj hlt => ?_) fun j hj hle => ?_
  · have h2:=List.all_eq_true.1 h1.2 j hj
    rw [Bool.or_eq_true] at h2
    rcases h2 with h2 | h2
    · have : i ≤ j:=by simpa using h2
      omega
    · exact lD hok hshut i o hi hall j h2
  · by_cases hij : j = i
    · rw [hij];exact hlf
    · cases hlj : listed.getD j false
      · rfl
      · exfalso
        have h2:=List.all_eq_true.1 hacts j hj
        rw [Bool.and_eq_true] at h2
        have hjl : j < l.length:=by simpa using h2.1
        have h3:=List.all_eq_true.1 h2.2 i ha
        rw [Bool.or_eq_true] at h3
        rcases h3 with h3 | h3
        · have : j ≤ i:=by simpa using h3
          omega
        · have hjo : l[j]? = some l[j]:=List.getElem?_eq_getElem hjl
          have:=lD hok hshut j _ hjo (hshut j _ hjo hlj) i h3
          rw [hlf] at this;cases this
theorem GInv.step {listed : Array Bool} {a : Act} {W W' : World} {i : Nat} {o : Oper} {v : Value} (h : GInv l acts J R a0 w listed a W) (hi : l.toArray[i]? = some o) (hok : OpOk l.toArray D every a0.tmps.size i o)
    (hr : i ∈ Region.ready .any l.toArray listed) (hb : Only G W W') (hph : J (phase acts (listed.setIfInBounds i true)) W') (hv : ∀ d,o.dst = some d → (gfactAt R i).holds v W') : GInv l acts J R a0 w (listed.setIfInBounds i true) (a.put o.dst v) W':=by
  obtain ⟨hl,o',ho',hall⟩:=mem_ready.1 hr
  have hoo : o' = o:=by rw [hi] at ho';cases ho';rfl
  subst hoo
  have hilt : i < l.length:=by have:=(Array.getElem?_eq_some_iff.1 hi).1;simpa using this
  have hii : (listed.setIfInBounds i true).getD i false = true:=by
    have : i < listed.size:=by rw [h.size];exact hilt
    simp [this]
  refine ⟨by simp [h.size],h.ext.trans hb,hph,(qC _ _ _).trans h.defs,(qR _ _ _).trans h.tsz,fun j oj d hj hd hlj => ?_,fun t ht => ?_,fun j oj hj hlj e he hbe => ?_⟩
  · by_cases hji : j = i
    · subst hji
      have : oj = o':=by rw [hi] at hj;cases hj;rfl
      subst this
      have hlt:=(hok.dst d hd).1
      rw [hd]
      have e1 : (a.put (some d) v).tmps.getD d undef = v:=by
        have:=lM a d d v
        rw [if_pos ⟨rfl,by rw [h.tsz];exact hlt⟩] at this
        simp [Array.getD_eq_getD_getElem?,this]
      rw [e1]
      exact hv d hd
    · have h1:=h.got j oj d hj hd (by rw [getD_set_ne false (Ne.symm hji)] at hlj;exact hlj)
      have e1 : (a.put o'.dst v).tmps.getD d undef = a.tmps.getD d undef:=by
        cases hod : o'.dst with
        | none => rfl
        | some d' =>
          have hne : d' ≠ d:=fun e => (hok.dst d' hod).2.2 j oj hj hji (by rw [e];exact hd)
          have:=lM a d' d v
          rw [if_neg (fun hh => hne hh.1)] at this
          simp [Array.getD_eq_getD_getElem?,this]
      rw [e1]
      exact (gfactAt R j).stays _ _ _ hb h1
  · have h1:=h.old t fun j oj hj hd => by
      have:=ht j oj hj hd
      by_cases hji : j = i
      · subst hji;rw [hii] at this;cases this
      · rwa [getD_set_ne false (Ne.symm hji)] at this
    cases hod : o'.dst with
    | none => exact h1
    | some d' =>
      have hne : d' ≠ t:=fun e => by
        have:=ht i o' hi (by rw [hod,e])
        rw [hii] at this;cases this
      rw [lM,if_neg (fun hh => hne hh.1)]
      exact h1
  · by_cases hji : j = i
    · subst hji
      have : oj = o':=by rw [hi] at hj;cases hj;rfl
      subst this
      exact getD_set_true (hall e he hbe)
    · rw [getD_set_ne false (Ne.symm hji)] at hlj
      exact getD_set_true (h.shut j oj hj hlj e he hbe)
theorem LR {listed : Array Bool} {a : Act} {W : World} {K : Act → World → Prop} {i : Nat} {o : Oper} (hi : l.toArray[i]? = some o) (ok : OpOk l.toArray D every a0.tmps.size i o)
    (hob : ggiven R W (fun a1 => wpList P l.toArray (ActPost G J (phase acts (listed.setIfInBounds i true)) a0.defers W o (gfactAt R i)) [o] a1 W) (D.getD i []) a0)
    (h : GInv l acts J R a0 w listed a W) (hr : i ∈ Region.ready .any l.toArray listed) (hK : ∀ a' W',GInv l acts J R a0 w (listed.setIfInBounds i true) a' W' → K a' W') : wpOp P l.toArray Q i K a W:=by
  obtain ⟨hl,o',hi',hall'⟩:=mem_ready.1 hr
  have hall : ∀ e ∈ o.after,Region.binds .any e = true → listed.getD e.on false = true:=by
    rw [hi] at hi';cases hi';exact hall'
  have hlf : listed.getD i false = false:=by
    have : i < listed.size:=by rw [h.size];exact (by have:=(Array.getElem?_eq_some_iff.1 hi).1;simpa using this)
    simp [this] at hl ⊢;exact hl
  have hg:=q8 (a:=a) (D.getD i []) a0 hob fun p hp => by
    obtain ⟨⟨oj,hj,hd⟩,e,he,hb,hon⟩:=ok.deps p hp
    exact h.got p.1 oj p.2 hj hd (by rw [← hon];exact hall e he hb)
  generalize ha1 : fill a (D.getD i []) a0 = a1 at hg
  have agree : ∀ t ∈ o.looksAt l.toArray,a.tmps[t]? = a1.tmps[t]?:=by
    intro t ht
    rw [← ha1,qF]
    by_cases hc : t ∈ (D.getD i []).map (·.2) ∧ t < a0.tmps.size
    · rw [if_pos hc,qU a t (by rw [h.tsz];exact hc.2)]
    · rw [if_neg hc]
      by_cases htl : t < a0.tmps.size
      · refine h.old t fun j oj hj hd => ?_
        rcases ok.looks t ht j oj hj hd with hin | ⟨e,he,hb,hon⟩
        · exact absurd ⟨List.mem_map.2 ⟨(j,t),hin,rfl⟩,htl⟩ hc
        · cases hlj : listed.getD j false
          · rfl
          · have:=h.shut j oj hj hlj e he hb
            rw [hon,hlf] at this;cases this
      · have n1 : a.tmps[t]? = none:=Array.getElem?_eq_none (by rw [h.tsz];exact Nat.le_of_not_lt htl)
        have n2 : a0.tmps[t]? = none:=Array.getElem?_eq_none (Nat.le_of_not_lt htl)
        rw [n1,n2]
  have hex : execOp a1.eval o = execOp a.eval o:=execOp_congr o ok.sel fun x hx => by
    cases x with
    | tmp t =>
      have:=agree t (List.mem_append_left _ (List.mem_filterMap.2 ⟨.tmp t,by simpa using hx,rfl⟩))
      simp [Act.eval,Array.getD_eq_getD_getElem?,this]
    | _ => rfl
  have hwt : Region.wanted o (yielded l.toArray a1.tmps) = Region.wanted o (yielded l.toArray a.tmps):=by
    unfold Region.wanted
    cases hgd : o.guard with
    | none => rfl
    | some gw =>
      obtain ⟨g,want⟩:=gw
      have hy : yielded l.toArray a1.tmps g = yielded l.toArray a.tmps g:=by
        unfold yielded
        cases ht : (l.toArray[g]?).bind (·.dst) with
        | none => rfl
        | some t =>
          have ht2 : (l[g]?.bind fun x => x.dst) = some t:=by simpa using ht
          have:=agree t (by simp [Oper.looksAt,hgd,ht2])
          simp [this]
      simp only [hy]
  have hsl : ∀ v d,o.dst = some d → slotOf o (a1.put o.dst v) = v:=by
    intro v d hd
    have hlt:=(ok.dst d hd).1
    have:=lM a1 d d v
    rw [if_pos ⟨rfl,by rw [← ha1,xH];exact hlt⟩] at this
    simp [slotOf,hd,Array.getD_eq_getD_getElem?,this]
  have done : ∀ v W',ActPost G J (phase acts (listed.setIfInBounds i true)) a0.defers W o (gfactAt R i) .normal (a1.put o.dst v) W' → K (a.put o.dst v) W':=by
    rintro v W' ⟨_,hb,hph,hv⟩
    refine hK _ _ (h.step hi ok hr hb hph fun d hd => ?_)
    rw [hsl v d hd] at hv
    exact hv
  unfold wpOp
  simp only [hi]
  rw [← hwt]
  unfold wpList at hg
  by_cases hw : Region.wanted o (yielded l.toArray a1.tmps) = true
  · rw [if_pos hw] at hg ⊢
    rcases hg with hg | ⟨_,_,_,hf⟩
    case inr => exact hf.elim
    refine .inl ?_
    unfold Oper.wp at hg ⊢
    rw [hex] at hg
    generalize (execOp a.eval o).run P W = r at *
    cases r with
    | ok n w' =>
      cases n <;> simp only [Oper.upon] at hg ⊢
      case value v => exact done v w' hg
      case skip => exact done undef w' hg
      case defer d =>
        obtain ⟨hd,_⟩:=hg
        rw [qC] at hd
        have e1 : a1.defers = a0.defers:=by rw [← ha1];exact lO _ _ _
        simp only [e1] at hd
        exact absurd hd (by simp)
      case enter f args =>
        refine Calls.mono hg fun e w'' he => ?_
        cases e with
        | returned v => exact done v w'' he
        | panicked c => exact he.elim
        | outgrown => obtain ⟨_,_,hf⟩:=he;exact hf.elim
      case row row args => exact Rows.mono hg fun v w'' he => done v w'' he
    | halt x w' =>
      cases x <;> simp only [Oper.upon] at hg ⊢
      case panic v => exact hg.elim
  · rw [if_neg hw] at hg ⊢
    exact done undef W hg
theorem L8 (hacts : ∀ i ∈ acts,i < l.length) (hok : ∀ i o,l.toArray[i]? = some o → OpOk l.toArray D every a0.tmps.size i o) (hev : ∀ p ∈ every,∃ oj,l.toArray[p.1]? = some oj ∧ oj.dst = some p.2)
    (hob : ∀ i o,l.toArray[i]? = some o → ∀ (listed : Array Bool) a W,GInv l acts J R a0 w listed a W → i ∈ Region.ready .any l.toArray listed → ggiven R W (fun a1 => wpList P l.toArray (ActPost G J (phase acts (listed.setIfInBounds i true)) a0.defers W o (gfactAt R i)) [o] a1 W) (D.getD i []) a0)
    (hend : ∀ W,Only G w W → J acts.length W → ggiven R W (fun a => Q .normal a W) every a0) :
    ∀ (fuel : Nat) (listed : Array Bool) (a : Act) (W : World),GInv l acts J R a0 w listed a W → listed.toList.count false ≤ fuel → wpAny P .any l.toArray Q fuel listed a W:=by
  have phase_all : ∀ {listed : Array Bool},(∀ j,j < l.toArray.size → listed.getD j false = true) → phase acts listed = acts.length:=by
    intro listed hall
    unfold phase
    exact List.countP_eq_length.2 fun j hj => hall j (by simpa using hacts j hj)
  have fin : ∀ (listed : Array Bool) (a : Act) (W : World),GInv l acts J R a0 w listed a W → (∀ j,j < l.toArray.size → listed.getD j false = true) → Q .normal a W:=by
    intro listed a W h hall
    have h1:=q8 (a:=a) every a0 (hend W h.ext (by have:=h.ph;rwa [phase_all hall] at this)) fun p hp => by
      obtain ⟨oj,hj,hd⟩:=hev p hp
      exact h.got p.1 oj p.2 hj hd (hall p.1 (Array.getElem?_eq_some_iff.1 hj).1)
    have e1 : fill a every a0 = a:=by
      have e2 : (fill a every a0).tmps = a.tmps:=by
        apply Array.ext_getElem?
        intro t
        rw [qF]
        by_cases hc : t ∈ every.map (·.2) ∧ t < a0.tmps.size
        · rw [if_pos hc,qU a t (by rw [h.tsz];exact hc.2)]
        · rw [if_neg hc]
          by_cases ht : t < a0.tmps.size
          · refine (h.old t fun j oj hj hd => ?_).symm
            exfalso
            exact hc ⟨List.mem_map.2 ⟨(j,t),((hok j oj hj).dst t hd).2.1,rfl⟩,ht⟩
          · rw [Array.getElem?_eq_none (by omega),Array.getElem?_eq_none (by rw [h.tsz];omega)]
      have e3:=(lO a every a0).trans h.defs.symm
      cases hf : fill a every a0
      cases a
      rw [hf] at e2 e3
      simp only at e2 e3
      rw [e2,e3]
    rw [e1] at h1
    exact h1
  have one : ∀ (fuel : Nat) (listed : Array Bool) (a : Act) (W : World) (K : Act → World → Prop) (i : Nat),GInv l acts J R a0 w listed a W → i ∈ Region.ready .any l.toArray listed →
      (∀ a' W',GInv l acts J R a0 w (listed.setIfInBounds i true) a' W' → K a' W') → wpOp P l.toArray Q i K a W:=by
    intro fuel listed a W K i h hr hK
    obtain ⟨_,o,hi,_⟩:=mem_ready.1 hr
    exact LR hi (hok i o hi) (hob i o hi listed a W h hr) h hr hK
  intro fuel
  induction fuel with
  | zero =>
    intro listed a W h hc
    have hall : ∀ j,j < l.toArray.size → listed.getD j false = true:=by
      intro j hj
      have hn : false ∉ listed.toList:=List.count_eq_zero.1 (by omega)
      have hjl : j < listed.size:=by rw [h.size];simpa using hj
      cases hb : listed[j]
      · exact absurd (by rw [← hb];exact Array.getElem_mem_toList hjl) hn
      · simp [hjl,hb]
    refine ⟨?_,fin _ _ _ h hall⟩
    cases hr : Region.ready .any l.toArray listed with
    | nil => rfl
    | cons x xs =>
      have hx : x ∈ Region.ready .any l.toArray listed:=by rw [hr];exact List.mem_cons_self
      obtain ⟨hl,o,hi,_⟩:=mem_ready.1 hx
      have hlt : x < l.toArray.size:=(Array.getElem?_eq_some_iff.1 hi).1
      have:=hall x hlt
      have hxl : x < listed.size:=by rw [h.size];simpa using hlt
      simp [hxl] at hl this
      rw [hl] at this;cases this
  | succ fuel ih =>
    intro listed a W h hc
    refine ⟨fun hr => fin _ _ _ h (qK hok (by simpa using h.size) hr),fun i hi => one fuel listed a W _ i h hi fun a' W' h' => ih _ _ _ h' ?_⟩
    obtain ⟨hl,o,ho,_⟩:=mem_ready.1 hi
    have hil : i < listed.size:=by rw [h.size];have:=(Array.getElem?_eq_some_iff.1 ho).1;simpa using this
    have:=qG listed.toList i (by
      simp [hil] at hl ⊢;exact hl)
    rw [Array.toList_setIfInBounds]
    omega
def phs (l : List (World → Prop)) (p : Nat) (W : World) : Prop:=l.getD p (fun _ => True) W
end
theorem jA {G : Nat → Prop} {J : Nat → World → Prop} {p : Nat} {D : List Deferred} {W : World} {o : Oper} {d : Nat} {c : Value} {a : Act} (ho : o.dst = some d) (hs : a.tmps.toList[d]? = some c) (hd : a.defers = D) (hj : J p W) : ActPost G J p D W o (GFact.is c) .normal a W:=by
  refine ⟨hd,Only.refl _ _,hj,?_⟩
  show slotOf o a = c
  have h : a.tmps[d]? = some c:=by simpa using hs
  simp [slotOf,ho,Array.getD_eq_getD_getElem?,h]
theorem vU {G : Nat → Prop} {J : Nat → World → Prop} {p : Nat} {D : List Deferred} {W W' : World} {o : Oper} {d : Nat} {c : Value} {R : GFact G} {a : Act} (ho : o.dst = some d) (hs : a.tmps.toList[d]? = some c) (hd : a.defers = D) (hb : Only G W W') (hj : J p W') (hr : R.holds c W') : ActPost G J p D W o R .normal a W':=by
  refine ⟨hd,hb,hj,?_⟩
  have h : a.tmps[d]? = some c:=by simpa using hs
  simp only [slotOf,ho,Array.getD_eq_getD_getElem?,h,Option.getD_some]
  exact hr
def earlyOk (l : List Oper) (acts E : List Nat) : Bool:=acts.all fun a => decide (a < l.length) && E.all fun i => ((masks l).getD a 0).testBit i
section
variable {P : Program} {l : List Oper} {Q : Exit → Act → World → Prop} {a0 : Act} {w : World} {G : Nat → Prop} {R : List (GFact G)} {J : Nat → World → Prop} {acts E : List Nat} {D : List (List (Nat × Nat))} {every : List (Nat × Nat)}
theorem vI (hok : ∀ i o,l[i]? = some o → ∀ e ∈ o.after,Region.binds .any e = true → e.on < i) (he : earlyOk l acts E = true) {listed : Array Bool} {a : Act} {W : World} {i : Nat} (hi : i ∈ E)
    (h : GInv l acts J R a0 w listed a W) (hlf : listed.getD i false = false) : phase acts listed = 0:=by
  unfold phase
  refine List.countP_eq_zero.2 fun j hj => ?_
  intro hlj
  have h1:=List.all_eq_true.1 he j hj
  rw [Bool.and_eq_true] at h1
  have hjl : j < l.length:=by simpa using h1.1
  have h2:=List.all_eq_true.1 h1.2 i hi
  have hshut : ∀ j oj,l[j]? = some oj → listed.getD j false = true → ∀ e ∈ oj.after,Region.binds .any e = true → listed.getD e.on false = true:=fun j oj hj => h.shut j oj (by simpa using hj)
  have hjo : l[j]? = some l[j]:=List.getElem?_eq_getElem hjl
  have:=lD hok hshut j _ hjo (hshut j _ hjo hlj) i h2
  rw [hlf] at this;cases this
def eobs (P : Program) (ops : Array Oper) (acts E : List Nat) (J : Nat → World → Prop) (R : List (GFact G)) (D : List (List (Nat × Nat))) (w : World) (a0 : Act) : Nat → List Oper → Prop
  | _,[] => True
  | i,o :: r => (if acts.contains i then ∀ W,Only G w W → J (rank acts i) W → ggiven R W (fun a1 => wpList P ops (ActPost G J (rank acts i + 1) a0.defers W o (gfactAt R i)) [o] a1 W) (D.getD i []) a0
      else if E.contains i then ∀ W,Only G w W → J 0 W → ggiven R W (fun a1 => wpList P ops (ActPost G J 0 a0.defers W o (gfactAt R i)) [o] a1 W) (D.getD i []) a0
      else ∀ p W,Only G w W → J p W → ggiven R W (fun a1 => wpList P ops (ActPost G J p a0.defers W o (gfactAt R i)) [o] a1 W) (D.getD i []) a0) ∧ eobs P ops acts E J R D w a0 (i + 1) r
theorem uI {ops : Array Oper} : ∀ (l : List Oper) (k : Nat),eobs P ops acts E J R D w a0 k l → ∀ j o,l[j]? = some o →
    if acts.contains (k + j) then ∀ W,Only G w W → J (rank acts (k + j)) W → ggiven R W (fun a1 => wpList P ops (ActPost G J (rank acts (k + j) + 1) a0.defers W o (gfactAt R (k + j))) [o] a1 W) (D.getD (k + j) []) a0
      else if E.contains (k + j) then ∀ W,Only G w W → J 0 W → ggiven R W (fun a1 => wpList P ops (ActPost G J 0 a0.defers W o (gfactAt R (k + j))) [o] a1 W) (D.getD (k + j) []) a0
      else ∀ p W,Only G w W → J p W → ggiven R W (fun a1 => wpList P ops (ActPost G J p a0.defers W o (gfactAt R (k + j))) [o] a1 W) (D.getD (k + j) []) a0
  | [],_,_,j,o,h => by simp at h
  | x :: l,k,ho,0,o,h => by
    simp at h;subst h
    exact ho.1
  | x :: l,k,ho,j + 1,o,h => by
    have:=uI l (k + 1) ho.2 j o (by simpa using h)
    rw [show k + (j + 1) = k + 1 + j by omega]
    exact this
theorem vH {ops : Array Oper} {i : Nat} : eobs P ops acts E J R D w a0 i []:=trivial
theorem xI {ops : Array Oper} {i : Nat} {o : Oper} {r : List Oper} (hn : acts.contains i = false) (he : E.contains i = false) (h : ∀ p W,Only G w W → J p W → ggiven R W (fun a1 => wpList P ops (ActPost G J p a0.defers W o (gfactAt R i)) [o] a1 W) (D.getD i []) a0) (hr : eobs P ops acts E J R D w a0 (i + 1) r) : eobs P ops acts E J R D w a0 i (o :: r) :=
  ⟨by rw [if_neg (by rw [hn];decide),if_neg (by rw [he];decide)];exact h,hr⟩
theorem j9 {ops : Array Oper} {i : Nat} {o : Oper} {r : List Oper} (hn : acts.contains i = false) (he : E.contains i = true) (h : ∀ W,Only G w W → J 0 W → ggiven R W (fun a1 => wpList P ops (ActPost G J 0 a0.defers W o (gfactAt R i)) [o] a1 W) (D.getD i []) a0) (hr : eobs P ops acts E J R D w a0 (i + 1) r) : eobs P ops acts E J R D w a0 i (o :: r) :=
  ⟨by rw [if_neg (by rw [hn];decide),if_pos he];exact h,hr⟩
theorem qX {ops : Array Oper} {i : Nat} {o : Oper} {r : List Oper} (q : Nat) (hq : rank acts i = q) (hn : acts.contains i = true) (h : ∀ W,Only G w W → J q W → ggiven R W (fun a1 => wpList P ops (ActPost G J (q + 1) a0.defers W o (gfactAt R i)) [o] a1 W) (D.getD i []) a0) (hr : eobs P ops acts E J R D w a0 (i + 1) r) : eobs P ops acts E J R D w a0 i (o :: r) :=
  ⟨by rw [if_pos hn,hq];exact h,hr⟩
theorem qP {id : Nat} (G : Nat → Prop) (acts E : List Nat) (J : Nat → World → Prop) (R : List (GFact G)) (D : List (List (Nat × Nat))) (every : List (Nat × Nat)) (hm : P.follows .mixedOrders = true) (hok : partsOk l.toArray D every a0.tmps.size = true)
    (hacts : actsOk l acts = true) (hearly : earlyOk l acts E = true) (hnd : acts.Nodup) (h0 : J 0 w.drew) (hob : eobs P l.toArray acts E J R D w a0 0 l) (hend : ∀ W,Only G w W → J acts.length W → ggiven R W (fun a => Q .normal a W) every a0) : (Code.region id l.toArray true).wp P Q a0 w:=by
  unfold partsOk at hok
  simp only [Bool.and_eq_true] at hok
  have ok : ∀ i o,l.toArray[i]? = some o → OpOk l.toArray D every a0.tmps.size i o:=fun i o hi => OpOk.of (by
    have:=List.all_eq_true.1 hok.1 i (List.mem_range.2 (Array.getElem?_eq_some_iff.1 hi).1)
    rw [hi] at this
    exact this)
  have hev : ∀ p ∈ every,∃ oj,l.toArray[p.1]? = some oj ∧ oj.dst = some p.2:=fun p hp => by
    have:=List.all_eq_true.1 hok.2 p hp
    obtain ⟨oj,h6,h7⟩:=Option.bind_eq_some_iff.1 (beq_iff_eq.1 this)
    exact ⟨oj,h6,h7⟩
  have hacts2 : ∀ i ∈ acts,i < l.length:=fun i hi => by
    have:=List.all_eq_true.1 hacts i hi
    rw [Bool.and_eq_true] at this
    simpa using this.1
  have hback : ∀ i o,l[i]? = some o → ∀ e ∈ o.after,Region.binds .any e = true → e.on < i:=fun i o hi => (ok i o (by simpa using hi)).back
  refine wp_region_any hm (L8 hacts2 ok hev (fun i o hi listed a W h hr => ?_) hend l.toArray.size _ a0 _ ⟨by simp,⟨rfl,rfl,rfl,Nat.le_refl _,fun _ _ _ => rfl⟩,?_,rfl,rfl,fun j oj d hj _ hl => ?_,fun _ _ => rfl,fun j oj hj hl => ?_⟩ (by simp))
  · have h1:=uI l 0 hob i o (by simpa using hi)
    rw [Nat.zero_add] at h1
    obtain ⟨hl,o',hi',hall'⟩:=mem_ready.1 hr
    have hall : ∀ e ∈ o.after,Region.binds .any e = true → listed.getD e.on false = true:=by
      rw [hi] at hi';cases hi';exact hall'
    have hilt : i < listed.size:=by rw [h.size];have:=(Array.getElem?_eq_some_iff.1 hi).1;simpa using this
    have hlf : listed.getD i false = false:=by
      simp [hilt] at hl ⊢;exact hl
    by_cases ha : i ∈ acts
    · rw [if_pos (by simpa using ha)] at h1
      have hp:=JD hback hacts (by simpa using hi) ha h hall hlf
      rw [vX hnd ha hilt hlf,hp]
      exact h1 W h.ext (by rw [← hp];exact h.ph)
    · rw [if_neg (by simpa using ha)] at h1
      rw [xN acts listed i ha]
      by_cases hE : i ∈ E
      · rw [if_pos (by simpa using hE)] at h1
        have hp0:=vI hback hearly hE h hlf
        rw [hp0]
        exact h1 W h.ext (by rw [← hp0];exact h.ph)
      · rw [if_neg (by simpa using hE)] at h1
        exact h1 _ W h.ext h.ph
  · have : phase acts (Array.replicate l.toArray.size false) = 0:=by
      unfold phase
      refine List.countP_eq_zero.2 fun j hj => ?_
      have:=hacts2 j hj
      simp [this]
    rw [this];exact h0
  all_goals
    exfalso
    have hlt : j < l.toArray.size:=(Array.getElem?_eq_some_iff.1 hj).1
    have hlt2 : j < l.length:=by simpa using hlt
    simp [hlt2] at hl
end
theorem xL {G : Nat → Prop} {J : Nat → World → Prop} {p : Nat} {D : List Deferred} {W W' : World} {o : Oper} {a : Act} (hd : a.defers = D) (hb : Only G W W') (hj : J p W') : ActPost G J p D W o (GFact.any G) .normal a W':=⟨hd,hb,hj,trivial⟩
theorem Only.set {G : Nat → Prop} {W : World} {g k : Nat} {v : Value} (hg : G g) : Only G W (W.setCell ⟨g,k,none⟩ v):=Only.of_grown (g:=g) (jK (jG _ _)) hg
def Fact.row {α : Type} (f : α → Value) (n : Nat) (l : List α) : Fact:=⟨fun v w => ∃ A cap,v = .slice A n cap ∧ Row f w w.heap.size A n l,fun _ _ _ hb ⟨A,cap,hv,hr⟩ => ⟨A,cap,hv,(hr.below hb).more hb.size⟩⟩
end Go.Proofs.YtlgaefenhfmjfaaDoor
