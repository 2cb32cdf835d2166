/- The program's Order, walked. -/
import Derived.Test.YtoekiejipdabmaaDoorPk5
import Derived.Test.YtoekiejipdabmaaDoorHeapP4
import Derived.Test.YtoekiejipdabmaaDoorPk6
import Derived.Test.YtoekiejipdabmaaDoorPk4
namespace Go.Proofs.YtoekiejipdabmaaDoor
open Go.RowKit
def Miss (w : World) (r c : Nat) (ms : List Nat) : Prop:=∃ cur,Blk w r 53 cur ∧ cur.length = c ∧ cur.take ms.length = ms.map wordV
theorem Miss.blk {w : World} {r c : Nat} {ms : List Nat} (h : Miss w r c ms) : r < w.heap.size:=by
  obtain ⟨cur,h1,_⟩:=h
  exact h1.lt
theorem Miss.cell {w : World} {r c k m : Nat} {ms : List Nat} (h : Miss w r c ms) (hk : ms[k]? = some m) : w.cell? ⟨r,k,none⟩ = some (.int .u32 (m : Int)) ∧ w.frozen? ⟨r,k,none⟩ = false:=by
  obtain ⟨cur,h1,_,h3⟩:=h
  refine ⟨?_,h1.frozen k⟩
  have h4:=congrArg (fun q : List Value => q[k]?) h3
  simp only [List.getElem?_take,if_pos (List.getElem?_eq_some_iff.1 hk).1,List.getElem?_map,hk] at h4
  rw [h1.cell k,h4];rfl
theorem Miss.set {w : World} {r c k : Nat} {ms : List Nat} (h : Miss w r c ms) (q : Nat) : Miss (w.setCell ⟨r,k,none⟩ (.int .u32 (q : Int))) r c (ms.set k q):=by
  obtain ⟨cur,h1,h2,h3⟩:=h
  refine ⟨_,h1.set k _,by simpa using h2,?_⟩
  rw [List.length_set,List.take_set,h3,List.map_set];rfl
theorem Miss.held {S : Nat → Prop} {w w' : World} {r c : Nat} {ms : List Nat} (h : Miss w r c ms) (hb : Held S w w') (hr : S r) : Miss w' r c ms:=by
  obtain ⟨cur,h1,h2⟩:=h
  exact ⟨cur,h1.held hb hr,h2⟩
theorem Miss.grown {w w' : World} {r c : Nat} {ms : List Nat} {row : Option Nat} (h : Miss w r c ms) (hg : w.grownBy w' row) (hne : some r ≠ row) : Miss w' r c ms:=by
  obtain ⟨cur,h1,h2⟩:=h
  exact ⟨cur,h1.grown hg hne,h2⟩
theorem own_lenV {w : World} {B : Nat} {e : TypeId} {v : Value} {xs : List Value} (h : Own w B e v xs) : lenV v = xs.length:=by
  obtain ⟨A,cap,rfl,_⟩:=h.form
  rfl
set_option maxRecDepth 1000000 in
set_option maxHeartbeats 8000000 in
theorem vO (B : Nat) (p : Pg) (w : World) (hp : p.Ok w B) (hB : B ≤ w.heap.size) (hs : Q.small p = true) (a b : Int) (c : Nat) (hc : Q.check p = (a,b,c)) :
    Calls Tryd.prog 60 #[pgA p] w fun e w' => ∃ (v : Value) (l : List Nat),e = .returned (.tuple #[v,.int .i64 (c : Int)]) ∧ (c ≠ 0 → l = []) ∧ (c = 0 → IsOrd p l ∧ l.length = p.len) ∧ Own w' w.heap.size 3 v (l.map natV) ∧ Below w.heap.size w w':=by
  have HP:=kp hp;have HS:=kp hs;have HC:=kp hc
  have hlen:=hp.row.len
  have HLen:=kp hlen
  by_cases hz : c = 0
  · subst hz
    have hF:=qZ hc
    have HF:=kp hF
    have hl16 : p.len ≤ 16:=by have h1:=hF.counts.f;omega
    have hl0 : 0 < p.len:=by have h1:=hF.counts.f;omega
    clear hp hc hs hlen hF
    rw [jM]
    go_enter Tryd.func60,Tryd.ntmps60
    go_wp2_with (first
      | ((with_reducible refine j4 rfl 24 (.tmp 0) rfl (pgC p) rfl ?_);intro g1 w1 hg1 hk1 hw1;have HK1:=kp hk1;have HW1:=kp hw1;have hs1:=hw1.size;have HP1:=kp (HP.out.below (hw1.mono hB));clear hg1 hk1 hw1)
      | ((with_reducible show Sl 16);go_must (refine j6 rfl 24 (.tmp 1) rfl g1 rfl _ (pgC p) _ HK1.out Tryd.underlying24 rfl jL ?_))
      | (go_at_call 27;go_must (refine (uF B p w1 HP1.out (Nat.le_trans hB hs1) HS.out a b 0 HC.out).mono ?_);rintro e w2 ⟨rfl,hw2⟩;have HK2:=kp (HK1.out.below hw2 HK1.out.lt);have HP2:=kp (HP1.out.below (hw2.mono (Nat.le_trans hB hs1)));have HW2:=kp (HW1.out.trans (hw2.mono hs1));have hs2:=HW2.out.size;clear hw2)
      | ((with_reducible show Sl 24);go_must (refine j6 rfl 24 (.tmp 1) rfl g1 rfl _ (pgC p) _ HK2.out Tryd.underlying24 rfl jL ?_))
      | (go_at_call 61;go_must (refine (yO B p w2 HP2.out (Nat.le_trans hB hs2) HS.out (by omega)).mono ?_);rintro e w3 ⟨v3,ms0,rfl,hml,hms,hown3,hw3⟩
         obtain ⟨r,c3,cur,rfl,hkr,hcl,hc3,hm3,hct,hrB⟩:=Own.blk hown3 (by rw [List.length_map];omega)
         rw [List.length_map,hml] at hct hc3
         rw [List.length_map,hml]
         have HMs0:=kp (MsOk.start hml HLen.out hms);have HMiss0 : Kept (Miss w3 r c3 ms0):=kp ⟨cur,hkr,hcl,by rw [hml];exact hct⟩
         have HW3:=kp (HW2.out.trans (hw3.mono hs2));have hrw : w.heap.size ≤ r:=Nat.le_trans hs2 hrB;have hr3:=hkr.lt
         unfold maxLen at hm3
         clear hml hms hown3 hw3 hkr hct hcl)
      | ((with_reducible show Sl 27);go_must (refine vW rfl 129 (.tmp 26) rfl (.slice (some ⟨w3.heap.size,0,none⟩) 0 0) rfl rfl ?_);intro g w5 hg5 hk5 hw5
         have hz5 : (w3.alloc (.cells #[] 3)).heap.size = w3.heap.size + 1:=by simp
         rw [hz5] at hg5
         have HB5 : Kept (Below w3.heap.size w3 w5):=kp (((Below.refl _ _).alloc (Nat.le_refl _) _).trans (hw5.mono (by rw [hz5];omega)))
         have HK5 : Kept (HpH w5 (fun k => k < w3.heap.size) g []):=kp ⟨Var.new hk5 (((Own.new w3 w3.heap.size 3 [] (Nat.le_refl _) (by simp [maxLen])).less (Nat.zero_le _)).below hw5 (Nat.le_refl _)) (by intro e;simp only [Value.ownBlock,Option.some.injEq] at e;omega) (by omega) (by intro k hk;simp only [Value.ownBlock,Option.some.injEq] at hk;omega) (by intro k hk;have:=hw5.size;rw [hz5] at this;omega),H.heap_nil _⟩
         have HMiss5 : Kept (Miss w5 r c3 ms0):=kp (HMiss0.out.held (Held.of_below (S:=fun k => k < w3.heap.size) HB5.out (fun k hk => hk)) hr3)
         have HW5:=kp (HW3.out.trans (HB5.out.mono (by omega)))
         clear hg5 hk5 hw5 hz5 HMiss0))
    clear HK1 HK2 HP1 HP2 HW1 HW2 HW3
    go_loopw [30] (fun v30 wr => ∃ (i : Nat) (h : List Int),i ≤ p.len ∧ v30 = .int .i64 i ∧ HFirst p h i ∧ HpH wr (fun k => k < w3.heap.size) g h ∧ Held (fun k => k < w3.heap.size) w5 wr) (fun v30 _ => p.len - (intOf v30).toNat)
    case atStart => exact ⟨0,[],by omega,rfl,HFirst.start p,HK5.out,Held.refl _ _⟩
    case round =>
      clear HK5
      obtain ⟨i,h,hi,rfl,hfirst,hk,hh⟩:=hrel
      have HFi:=kp hfirst;have HK:=kp hk;have HH:=kp hh
      have HMi:=kp (HMiss5.out.held hh hr3)
      clear hfirst hk hh
      by_cases hlt : i < p.len
      · obtain ⟨m,hm⟩ : ∃ m,ms0[i]? = some m:=⟨_,List.getElem?_eq_getElem (by rw [HMs0.out.1];exact hlt)⟩
        have HBm:=kp (HMs0.out.2 i m hm)
        have HFree : Kept (m = 0 ↔ Free p [] i):=kp <| by
          rw [free_nil,XU HBm.out (fun y hy => by have:=x6 HF.out HLen.out hy.1;have:=HLen.out;omega)]
          simp
        obtain ⟨hcr,hfr⟩:=HMi.out.cell hm
        clear hm
        by_cases h0 : m = 0
        · subst h0
          have HE:=kp (HFree.out.1 rfl)
          go_wp2_with (go_at_call 70;go_must (refine (J9 _ g (i : Int) h wr HK.out (by have:=HFi.out.len;omega)).mono ?_);rintro e w6 ⟨rfl,h6,hk6,hp6,hh6⟩;have HK6:=kp hk6;have HP6:=kp hp6;have HH6:=kp (HH.out.trans hh6);clear hk6 hp6 hh6)
          go_roundw
          case rel => exact ⟨i + 1,h6,by omega,by go_num,HFi.out.push HP6.out hlt HE.out,HK6.out,HH6.out⟩
          case measure => simp [intOf];omega
        · have hmb : ((m : Int) == 0) = false:=by simp;omega
          have HE:=kp (fun hf => h0 (HFree.out.2 hf))
          clear h0
          go_wp2
          go_roundw
          case rel => exact ⟨i + 1,h,by omega,by go_num,HFi.out.skip HE.out,HK.out,HH.out⟩
          case measure => simp [intOf];omega
      · have hie : i = p.len:=by omega
        have HOk0 : Kept (HOk p [] h):=kp (HFirst.done (by rw [← hie];exact HFi.out))
        have HBr : Kept (Below w.heap.size w wr):=kp (HW5.out.trans ((HH.out.below).mono (by omega)))
        have hzr : w3.heap.size ≤ wr.heap.size:=Nat.le_trans HB5.out.size HH.out.size
        clear hlt
        subst hie
        go_wp2
        go_loopw [8] (fun v8 wr => ∃ (l ms : List Nat) (h : List Int),lenV v8 = l.length ∧ IsOrd p l ∧ MsOk p l ms ∧ HOk p l h ∧ HpH wr (fun k => k < w3.heap.size ∨ v8.ownBlock = some k) g h ∧ Miss wr r c3 ms ∧ Own wr w3.heap.size 3 v8 (l.map natV) ∧ Below w.heap.size w wr ∧ w3.heap.size ≤ wr.heap.size) (fun v8 _ => p.len - lenV v8)
        case atStart => exact ⟨[],ms0,h,rfl,ord_nil p,HMs0.out,HOk0.out,HK.out.below (Below.refl _ _) (fun k hk => .inl (hk.resolve_right (by simp [Value.ownBlock]))),HMi.out,Own.nil _ _ _,HBr.out,hzr⟩
        case round =>
          clear HOk0 HK HMi HBr hzr HFi HH
          obtain ⟨l,ms,h,hlv,hord,hms,hok,hk,hmi,hown,hbw,hzr⟩:=hrel
          obtain ⟨n0,hn0⟩ : ∃ n,l.length = n:=⟨_,rfl⟩
          obtain ⟨A8,c8,rfl,hc8,hm8,hr8⟩:=Own.readsN hown hn0
          have HOrd:=kp hord;have HMs:=kp hms;have HOk:=kp hok;have HK:=kp hk;have HMi:=kp hmi;have HOwn:=kp hown;have HBw:=kp hbw;have HN0:=kp hn0
          have hn0le : n0 ≤ p.len:=by rw [← hn0];exact XK HLen.out hord
          clear hlv hord hms hok hk hmi hown hbw hn0 hr8 hm8 hc8
          cases h with
          | nil =>
            have HE : Kept (l.length = p.len):=kp <| by
              rcases Nat.lt_or_ge l.length p.fns.length with hlt | hge
              · obtain ⟨f,hf,hfree⟩:=ord_next HF.out HLen.out hlt
                have:=HOk.out.2.2 f (by rw [← HLen.out];exact hf) hfree
                cases this
              · have:=HN0.out;have:=HLen.out;omega
            go_wp2_with (go_at_call 71;go_must (refine (yG _ g 0 [] wr HK.out.1 rfl).mono ?_);rintro e w6 ⟨rfl,rfl⟩)
            go_ret2
            exact ⟨_,l,rfl,fun h => absurd rfl h,fun _ => ⟨HOrd.out,HE.out⟩,HOwn.out.less (by omega),HBw.out⟩
          | cons x0 ht =>
            obtain ⟨m,hmm⟩ : ∃ m,(x0 :: ht).length = m + 1:=⟨ht.length,rfl⟩
            have hm16 : m + 1 ≤ p.len:=by rw [← hmm];exact HOk.out.len
            have HMm:=kp hmm
            generalize x0 :: ht = h at *
            clear hmm
            go_wp2_with (first
              | (go_at_call 71;go_must (refine (yG _ g (m + 1) h wr HK.out.1 HMm.out).mono ?_);rintro e w6 ⟨rfl,rfl⟩)
              | (go_at_call 72;go_must (refine (YK _ g m h wr HK.out HMm.out (by omega)).mono ?_);rintro e w6 ⟨x,h6,rfl,hk6,hp6,hmin6,hh6⟩
                 obtain ⟨f,rfl,hf,hfree⟩:=HOk.out.2.1 x (hp6.mem_iff.2 List.mem_cons_self)
                 have HK6:=kp hk6;have HH6:=kp hh6
                 have HA6:=kp (HAt.start HOk.out hp6)
                 have HOrd6 : Kept (IsOrd p (l ++ [f])):=kp (ord_snoc HOrd.out (by rw [HLen.out];exact hf) hfree (fun g2 hg2 hfr => by have:=hmin6 _ (HOk.out.2.2 g2 (by omega) hfr);omega))
                 have HMi6:=kp (HMi.out.held hh6 (.inl hr3))
                 have HO6:=kp (HOwn.out.heldAt hh6 (fun k hk => .inr hk))
                 have HB6:=kp (HBw.out.trans ((hh6.less (S':=fun k => k < w3.heap.size) (fun k hk => .inl hk)).below.mono (show w.heap.size ≤ w3.heap.size by omega)))
                 have hz6 : w3.heap.size ≤ w6.heap.size:=Nat.le_trans hzr hh6.size
                 have hn1le : n0 + 1 ≤ p.len:=by have:=XK HLen.out HOrd6.out;rw [List.length_append,HN0.out] at this;simpa using this
                 clear hk6 hp6 hmin6 hh6 hfree)
              | (at_builtin;go_must (refine jO rfl (.tmp 48) (.tmp 50) 76 rfl w3.heap.size 3 _ _ Tryd.underlying76 q6 rfl _ _ _ _ rfl HO6.out _ 1 rfl rfl rfl (by simp [maxLen];rw [HN0.out];omega) (by simp;rw [HN0.out];omega) hz6 ?_);intro v1 w7 hown1 hg1
                 have HO7 : Kept (Own w7 w3.heap.size 3 v1 ((l ++ [f]).map natV)):=kp (by rw [List.map_append];exact hown1)
                 have HB7:=kp (hg1.below HB6.out (HO6.out.less (show w.heap.size ≤ w3.heap.size by omega)) (by omega))
                 have hz7 : w3.heap.size ≤ w7.heap.size:=Nat.le_trans hz6 hg1.size
                 have HK7 : Kept (HpH w7 (fun k => k < w3.heap.size ∨ v1.ownBlock = some k) g h6):=kp (HK6.out.kept hg1.1 (fun k hk => .inr hk) (fun k hk => by
                   rcases hk with hk | hk
                   · exact .inl (.inl hk)
                   · rcases hg1.2 with h1 | h1
                     · exact .inl (.inr (h1.symm.trans hk))
                     · exact .inr ⟨h1 k hk,(hown1.block k hk).2⟩))
                 have HMi7 : Kept (Miss w7 r c3 ms):=kp (HMi6.out.grown hg1.1 (fun e => by have:=(HO6.out.block r e.symm).1;omega))
                 have hlv : lenV v1 = n0 + 1:=by rw [own_lenV HO7.out,List.length_map,List.length_append,HN0.out];rfl
                 have HLv:=kp hlv
                 clear hown1 hg1 hlv))
            go_loopw [54] (fun v54 wq => ∃ (k : Nat) (ms : List Nat) (h : List Int),k ≤ p.len ∧ v54 = .int .i64 k ∧ MsAt p l f ms k ∧ HAt p l f h k ∧ HpH wq (fun k => k < w3.heap.size ∨ v1.ownBlock = some k) g h ∧ Miss wq r c3 ms ∧ Own wq w3.heap.size 3 v1 ((l ++ [f]).map natV) ∧ Below w.heap.size w wq ∧ w3.heap.size ≤ wq.heap.size) (fun v54 _ => p.len - (intOf v54).toNat)
            case atStart => exact ⟨0,ms,h6,by omega,rfl,MsAt.start f HMs.out,HA6.out,HK7.out,HMi7.out,HO7.out,HB7.out,hz7⟩
            case round =>
              clear HMs HOk HK HMi HOwn HBw HMm HK6 HA6 HMi6 HO6 HB6 HH6 HO7 HB7 HK7 HMi7 hzr hz6 hz7
              obtain ⟨k,ms,h,hk,rfl,hms,ha,hhp,hmi,hown,hbw,hzr⟩:=hrel
              have HMs:=kp hms;have HA:=kp ha;have HK:=kp hhp;have HMi:=kp hmi;have HOwn:=kp hown;have HBw:=kp hbw
              clear hms ha hhp hmi hown hbw
              by_cases hlt : k < p.len
              · obtain ⟨m,hm⟩ : ∃ m,ms[k]? = some m:=⟨_,List.getElem?_eq_getElem (by rw [HMs.out.1];exact hlt)⟩
                have hbm:=HMs.out.2 k m hm
                rw [if_neg (by omega)] at hbm
                have HBit:=kp (one_left HF.out HLen.out HOrd6.out hbm)
                have hmlt : m < 4294967296:=hbm.1
                obtain ⟨o,ho⟩ : ∃ o,S.one (f : Int) = o:=⟨_,rfl⟩
                have holt : o < 4294967296:=by rw [← ho];exact S.one_lt _
                rw [ho] at HBit
                have HOne:=kp ho
                have HMsN : Kept (MsAt p l f (ms.set k (m &&& (4294967295 - o))) (k + 1)):=kp (by rw [← ho];exact HMs.out.step hm)
                have HBt : Kept (bits .andNot .u32 (m : Int) (o : Int) = ((m &&& (4294967295 - o) : Nat) : Int)):=kp <| u32_andNot_nat m o hmlt holt
                obtain ⟨hcr,hfr⟩:=HMi.out.cell hm
                have HG : ∀ v,wr.grownBy (wr.setCell ⟨r,k,none⟩ v) (some r):=fun v => jX (jS _ _)
                have HKs : Kept (∀ v,HpH (wr.setCell ⟨r,k,none⟩ v) (fun k => k < w3.heap.size ∨ v1.ownBlock = some k) g h):=kp fun v => HK.out.kept (HG v) (fun j hj => by cases hj;exact .inl hr3) (fun j hj => .inl hj)
                have HOs : Kept (∀ v,Own (wr.setCell ⟨r,k,none⟩ v) w3.heap.size 3 v1 ((l ++ [f]).map natV)):=kp fun v => HOwn.out.far (HG v) (by
                  cases hv : v1.ownBlock with
                  | none => exact .inl rfl
                  | some j => exact .inr fun e => by cases e;have:=(HOwn.out.block r hv).1;omega)
                have HBs : Kept (∀ v,Below w.heap.size w (wr.setCell ⟨r,k,none⟩ v)):=kp fun v => ⟨HBw.out.os,HBw.out.tape,HBw.out.output,by simpa using HBw.out.size,fun j hj => (heap_setCell_other wr _ j v (by show j ≠ r;omega)).trans (HBw.out.block j hj)⟩
                have HMs2 : Kept (Miss (wr.setCell ⟨r,k,none⟩ (.int .u32 (bits .andNot .u32 (m : Int) (o : Int)))) r c3 (ms.set k (m &&& (4294967295 - o)))):=kp (by rw [HBt.out];exact HMi.out.set _)
                have hf64 : Kept (I64 (f : Int)):=kp (by unfold I64;omega)
                have hkl : (k : Int) < (p.len : Int):=by omega
                clear hm hbm ho HG HMi HOwn HBw HK HMs HBt
                by_cases hmo : m = o
                · have hmb : ((m : Int) == (o : Int)) = true:=by rw [hmo];simp
                  have HE:=kp (HBit.out.1 hmo)
                  clear hmo
                  go_wp2_with (first
                    | (go_at_call 35;go_must (refine (lS (f : Int) hf64.out o HOne.out _).mono ?_);rintro e' w' ⟨rfl,rfl⟩)
                    | (go_at_call 70;go_must (refine (J9 _ g (k : Int) h _ (HKs.out _) (by have:=HA.out.len;omega)).mono ?_);rintro e w8 ⟨rfl,h8,hk8,hp8,hh8⟩
                       have HK8:=kp hk8;have HP8:=kp hp8
                       have HM8:=kp (HMs2.out.held hh8 (.inl hr3))
                       have HO8:=kp ((HOs.out _).heldAt hh8 (fun j hj => .inr hj))
                       have HB8:=kp ((HBs.out _).trans ((hh8.less (S':=fun k => k < w3.heap.size) (fun k hk => .inl hk)).below.mono (show w.heap.size ≤ w3.heap.size by omega)))
                       have hz8 : w3.heap.size ≤ w8.heap.size:=Nat.le_trans hzr (by have:=hh8.size;simpa using this)
                       clear hk8 hp8 hh8))
                  go_roundw
                  case rel => exact ⟨k + 1,_,h8,by omega,by go_num,HMsN.out,HA.out.push HP8.out hlt HE.out.1 HE.out.2,HK8.out,HM8.out,HO8.out,HB8.out,hz8⟩
                  case measure => simp [intOf];omega
                · have hmb : ((m : Int) == (o : Int)) = false:=by simp;omega
                  have HE:=kp (fun hh => hmo (HBit.out.2 hh))
                  clear hmo
                  go_wp2_with (go_at_call 35;go_must (refine (lS (f : Int) hf64.out o HOne.out _).mono ?_);rintro e' w' ⟨rfl,rfl⟩)
                  go_roundw
                  case rel => exact ⟨k + 1,_,h,by omega,by go_num,HMsN.out,HA.out.skip HE.out,HKs.out _,HMs2.out,HOs.out _,HBs.out _,by simpa using hzr⟩
                  case measure => simp [intOf];omega
              · have hke : k = p.len:=by omega
                have HMsE : Kept (MsOk p (l ++ [f]) ms):=kp (MsAt.done (by rw [← hke];exact HMs.out))
                have HOkE : Kept (HOk p (l ++ [f]) h):=kp (HAt.done (by rw [← hke];exact HA.out))
                have hge2 : p.len ≤ k:=by omega
                clear hlt hke
                go_wp2
                go_roundw
                case rel => exact ⟨l ++ [f],ms,h,by rw [HLv.out,List.length_append,HN0.out];rfl,HOrd6.out,HMsE.out,HOkE.out,HK.out,HMi.out,HOwn.out,HBw.out,hzr⟩
                case measure => show p.len - lenV v1 < p.len - n0;rw [HLv.out];omega
  · have hcb : ((c : Int) != 0) = true:=by simpa using hz
    have HZ:=kp hz
    clear hp hc hs hlen hz
    rw [jM]
    go_enter Tryd.func60,Tryd.ntmps60
    go_wp2_with (first
      | ((with_reducible refine j4 rfl 24 (.tmp 0) rfl (pgC p) rfl ?_);intro g1 w1 hg1 hk1 hw1;have HK1:=kp hk1;have HW1:=kp hw1;have hs1:=hw1.size;have HP1:=kp (HP.out.below (hw1.mono hB));clear hg1 hk1 hw1)
      | ((with_reducible show Sl 16);go_must (refine j6 rfl 24 (.tmp 1) rfl g1 rfl _ (pgC p) _ HK1.out Tryd.underlying24 rfl jL ?_))
      | (go_at_call 27;go_must (refine (uF B p w1 HP1.out (Nat.le_trans hB hs1) HS.out a b c HC.out).mono ?_);rintro e w2 ⟨rfl,hw2⟩;have HW2:=kp (HW1.out.trans (hw2.mono hs1));clear hw2))
    go_ret2
    exact ⟨_,[],rfl,fun _ => rfl,fun h => absurd h HZ.out,Own.nil _ _ _,HW2.out⟩
end Go.Proofs.YtoekiejipdabmaaDoor
