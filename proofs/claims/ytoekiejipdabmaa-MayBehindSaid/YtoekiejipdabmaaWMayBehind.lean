/- MayBehind, walked. -/
import Derived.Test.YtoekiejipdabmaaPk2
import Derived.Test.YtoekiejipdabmaaMayR1
import Derived.Test.YtoekiejipdabmaaPk1
namespace Go.Proofs.Ytoekiejipdabmaa
open Go.RowKit
theorem jA : (Try.prog.info? 23).map (·.size) = some 4:=by kernel_rfl
def sx (w : World) (h ex : Nat) : Sc:=⟨0,0,default,0,0,⟨some ⟨w.heap.size,0,none⟩,3,3,[h,ex,0]⟩⟩
def sxW (w : World) (h ex : Nat) : World:=w.alloc (.cells #[.int .u32 (h : Int),.int .u32 (ex : Int),.int .u32 0] 24)
theorem jE (w : World) (h ex : Nat) (hh : h < 4294967296) (hex : ex < 4294967296) : (sx w h ex).Ok (sxW w h ex) (sxW w h ex).heap.size:=by
  have hb : Blk (sxW w h ex) w.heap.size 24 (([h,ex,0] : List Nat).map wordV):=Blk.newA w _ _ _ rfl
  have h0 : (0 : Nat) < 4294967296:=by decide
  refine ⟨h0,h0,⟨Row.none_ rfl rfl,(fun y hy => by cases hy),Nat.le_refl _,Nat.zero_le _⟩,h0,h0,?_⟩
  refine l4 hb (fun x hx => ?_) 3 rfl (by omega)
  simp only [List.mem_cons,List.not_mem_nil,or_false] at hx
  rcases hx with rfl | rfl | rfl
  · exact hh
  · exact hex
  · exact h0
set_option maxRecDepth 1000000 in
set_option maxHeartbeats 8000000 in
theorem walkMayBehind (nd0 : Nd) (a1 : Int) (a2 : Int) (a3 : Int) (a4 : Bool) (a5 : Int) (w : World) (w0 : nd0.Ok) (w1 : (Lit.int .u32 a1).wf = true) (w2 : (Lit.int .u32 a2).wf = true) (w3 : (Lit.int .i64 a3).wf = true) (w5 : (Lit.int .i64 a5).wf = true) :
    Calls Try.prog 3 #[ndA nd0,.int .u32 a1,.int .u32 a2,.int .i64 a3,.bool a4,.int .i64 a5] w fun e w' => e = .returned (.bool true) ∧ Below w.heap.size w w':=by
  obtain ⟨h,rfl,hh⟩:=jS w1
  obtain ⟨ex,rfl,hex⟩:=jS w2
  have HN:=kp w0;have HLo:=kp (jH w3);have HI5:=kp (jH w5)
  clear w0 w1 w2 w3 w5
  obtain ⟨r,hr⟩ : ∃ r,Ma.behind nd0 h ex a3 a4 = r:=⟨_,rfl⟩
  have HR:=kp hr
  have hr32 : r < 4294967296:=by rw [← hr];exact Ma.behind_lt hh hex
  have HMask : Kept (S.mask (S.ids r 32) % 4294967296 = r):=kp (by rw [S.mask_ids,show (2 : Nat) ^ 32 = 4294967296 from rfl,Nat.mod_eq_of_lt hr32,Nat.mod_eq_of_lt hr32])
  have HIds : Kept (∀ x ∈ S.ids r 32,x ≤ 31):=kp (fun x hx => by have:=(S.ids_mem _ _ _).1 hx;omega)
  clear hr
  rw [show ndA nd0 = .agg (ndC nd0).toArray from rfl]
  go_enter Try.func3,Try.ntmps3
  go_wp2_with (first
    | ((with_reducible refine j0 rfl 23 (.tmp 0) rfl (ndC nd0) rfl ?_);intro g1 u1 hg1 hk1 hu1;have HK1:=kp hk1;have HU1:=kp hu1;have hz1:=hu1.size;clear hg1 hk1 hu1))
  refine (jW u1).mono ?_
  rintro e w2 ⟨rfl,hb2⟩
  have HW2:=kp (HU1.out.trans (hb2.mono hz1));have hs2:=HW2.out.size
  have HK2:=kp (HK1.out.below hb2 HK1.out.lt)
  clear hb2
  go_wp2
  go_loopw [13,14] (fun v13 v14 wr => ∃ k : Nat,k ≤ 32 ∧ v14 = .int .i64 k ∧ Own wr w2.heap.size 3 v13 ((S.ids r k).map natV) ∧ Below w2.heap.size w2 wr) (fun _ v14 _ => 32 - (intOf v14).toNat)
  case atStart => exact ⟨0,by omega,rfl,Own.nil _ _ _,Below.refl _ _⟩
  case round =>
    obtain ⟨k,hk,rfl,hown,hbr⟩:=hrel
    have HO:=kp hown;have HB:=kp hbr
    have hsr:=hbr.size
    have HKr:=kp (HK2.out.below hbr HK2.out.lt)
    clear hown hbr
    by_cases hlt : k < 32
    · obtain ⟨rb,hrb⟩ : ∃ rb,r.testBit k = rb:=⟨_,rfl⟩
      have HRb : Kept ((Ma.behind nd0 h ex a3 a4).testBit k = rb):=kp (by rw [HR.out];exact hrb)
      have HIn:=kp hrb
      have HLen : Kept ((S.ids r k).length ≤ 32):=kp (Nat.le_trans (S.ids_len r k) hk)
      have HLt:=kp hlt
      clear hrb
      go_wp2_with (first
        | ((with_reducible show Sl 23);go_must (refine j3 rfl 23 (.tmp 6) rfl g1 rfl _ (ndC nd0) _ HKr.out Try.underlying23 rfl jA ?_))
        | (go_at_call 5;fail))
      refine (jN nd0 HN.out h ex hh hex a3 a4 k HLt.out rb HRb.out wr).mono ?_
      rintro e w3 ⟨rfl,hb3⟩
      have HB3:=kp (HB.out.trans (hb3.mono hsr));have hs3:=HB3.out.size
      have HO3:=kp (HO.out.below hb3 (Nat.le_refl _))
      clear hb3
      cases rb with
      | true =>
        have hl32:=HLen.out
        go_wp2_with (at_builtin;go_must (refine jI rfl (.tmp 30) (.tmp 32) 26 rfl w2.heap.size 3 _ _ Try.underlying26 l3 rfl w3 _ ((S.ids r k).map natV) (natV k) rfl HO3.out ⟨w3.heap.size,0,none⟩ 1 rfl rfl rfl (by rw [List.length_map];unfold maxLen;omega) (by rw [List.length_map];omega) hs3 ?_);intro v4 w4 ho4 hg4;have HO4:=kp ho4;have HB4:=kp (hg4.below HB3.out HO3.out hs3);clear ho4 hg4)
        go_roundw
        case rel => exact ⟨k + 1,by omega,by go_num,by rw [S.ids_succ,if_pos HIn.out,List.map_append];exact HO4.out,HB4.out⟩
        case measure => simp [intOf];omega
      | false =>
        go_wp2
        go_roundw
        case rel => exact ⟨k + 1,by omega,by go_num,by rw [S.ids_succ,if_neg (by rw [HIn.out];simp),List.append_nil];exact HO3.out,HB3.out⟩
        case measure => simp [intOf];omega
    · obtain rfl : k = 32:=by omega
      obtain ⟨n13,hn13⟩ : ∃ n,(S.ids r 32).length = n:=⟨_,rfl⟩
      have hn32 : n13 ≤ 32:=by rw [← hn13];exact S.ids_len r 32
      obtain ⟨A13,c13,hv13,hc13,hm13,hrow⟩:=HO.out.readsN hn13
      have HRow:=kp hrow
      have HBal0:=kp ((Below.refl wr.heap.size wr).alloc (Nat.le_refl _) (.cells #[.int .u32 (h : Int),.int .u32 (ex : Int),.int .u32 0] 24))
      have HBal:=kp (HB.out.trans (HBal0.out.mono hsr))
      have HKal:=kp (HKr.out.below HBal0.out HKr.out.lt)
      unfold maxLen at hm13
      subst hv13
      clear hn13 hrow hlt
      by_cases hi0 : a5 = 0
      · have i0 : (a5 == 0) = true:=by rw [hi0];rfl
        have i1 : (a5 == 1) = false:=by rw [hi0];rfl
        have i2 : (a5 == 2) = false:=by rw [hi0];rfl
        by_cases hz : h = 0
        · have hzb : ((h : Int) == 0) = true:=by rw [hz];rfl
          have HSolo : Kept (decide (0 ≤ a5 ∧ a5 < ((sx wr h ex).live.len : Int) ∧ (sx wr h ex).live.z.getD a5.toNat 0 = 0) = true):=kp (by
            show decide (0 ≤ a5 ∧ a5 < ((3 : Nat) : Int) ∧ ([h,ex,0] : List Nat).getD a5.toNat 0 = 0) = true
            rw [hi0,hz];simp)
          clear hi0 hz
          go_wp2_with (first
            | ((with_reducible show Sl 15);go_must (refine j2 rfl 30 rfl (scC default) jF ?_);intro gS w5 hgS hk5 hb5;have HGS:=kp hgS;have HS5:=kp hk5;have HB5:=kp hb5;clear hgS hk5 hb5)
            | ((with_reducible show Sn);go_must (refine j5 rfl 30 (.tmp 15) (.tmp 37) rfl gS (scC (sx wr h ex)) rfl rfl _ _ HS5.out j7 rfl (jG _) ?_);intro w6 hk6 hg6 hz6;have HS6:=kp hk6;have HB6:=kp (HB5.out.grown hg6 HB5.out.size (fun k e => by cases e;exact HGS.out));clear hk6 hg6 hz6)
            | ((with_reducible show Sl 56);go_must (refine j3 rfl 23 (.tmp 6) rfl g1 rfl _ (ndC nd0) _ ((HKal.out.below HB6.out HKal.out.lt)) Try.underlying23 rfl jA ?_))
            | (go_at_call 6;fail))
          have HB6w:=kp (HBal.out.trans (HB6.out.mono HBal.out.size));have hs6:=HB6w.out.size
          refine (j8 nd0 HN.out h ex hh a3 HLo.out a4 r HR.out w6).mono ?_
          rintro e w7 ⟨rfl,hb7⟩
          have HB7:=kp (HB6.out.trans (hb7.mono HB6.out.size))
          have HB7w:=kp (HB6w.out.trans (hb7.mono hs6));have hs7:=HB7w.out.size
          have HS7:=kp (HS6.out.below hb7 HS6.out.lt)
          have HOk7:=kp ((jE wr h ex hh hex).below HB7.out)
          have HRow7:=kp ((HRow.out.below HBal0.out).below (HB7.out.mono HBal0.out.size))
          clear hb7
          go_wp2_with (first
            | (go_at_call 7;go_must (refine (jB wr.heap.size A13 n13 c13 (S.ids r 32) _ HRow7.out HIds.out (by omega) r HMask.out).mono ?_);rintro e w9 ⟨rfl,rfl⟩)
            | ((with_reducible show Sl 66);go_must (refine j1 rfl 30 (.tmp 15) rfl gS rfl _ (scC (sx wr h ex)) _ HS7.out Try.underlying30 rfl j7 ?_))
            | (go_at_call 8;fail))
          refine (jC _ (sx wr h ex) w7 HOk7.out HB7.out.size a5 HI5.out true HSolo.out).mono ?_
          rintro e w8 ⟨rfl,hb8⟩
          have HB8:=kp (HB7w.out.trans (hb8.mono hs7))
          clear hb8
          go_wp2
          go_ret
          exact ⟨rfl,HW2.out.trans (HB8.out.mono hs2)⟩
        · have hzb : ((h : Int) == 0) = false:=by simp;omega
          have HSolo : Kept (decide (0 ≤ a5 ∧ a5 < ((sx wr h ex).live.len : Int) ∧ (sx wr h ex).live.z.getD a5.toNat 0 = 0) = false):=kp (by
            show decide (0 ≤ a5 ∧ a5 < ((3 : Nat) : Int) ∧ ([h,ex,0] : List Nat).getD a5.toNat 0 = 0) = false
            rw [hi0];simp;omega)
          clear hi0 hz
          go_wp2_with (first
            | ((with_reducible show Sl 15);go_must (refine j2 rfl 30 rfl (scC default) jF ?_);intro gS w5 hgS hk5 hb5;have HGS:=kp hgS;have HS5:=kp hk5;have HB5:=kp hb5;clear hgS hk5 hb5)
            | ((with_reducible show Sn);go_must (refine j5 rfl 30 (.tmp 15) (.tmp 37) rfl gS (scC (sx wr h ex)) rfl rfl _ _ HS5.out j7 rfl (jG _) ?_);intro w6 hk6 hg6 hz6;have HS6:=kp hk6;have HB6:=kp (HB5.out.grown hg6 HB5.out.size (fun k e => by cases e;exact HGS.out));clear hk6 hg6 hz6)
            | ((with_reducible show Sl 56);go_must (refine j3 rfl 23 (.tmp 6) rfl g1 rfl _ (ndC nd0) _ ((HKal.out.below HB6.out HKal.out.lt)) Try.underlying23 rfl jA ?_))
            | (go_at_call 6;fail))
          have HB6w:=kp (HBal.out.trans (HB6.out.mono HBal.out.size));have hs6:=HB6w.out.size
          refine (j8 nd0 HN.out h ex hh a3 HLo.out a4 r HR.out w6).mono ?_
          rintro e w7 ⟨rfl,hb7⟩
          have HB7:=kp (HB6.out.trans (hb7.mono HB6.out.size))
          have HB7w:=kp (HB6w.out.trans (hb7.mono hs6));have hs7:=HB7w.out.size
          have HS7:=kp (HS6.out.below hb7 HS6.out.lt)
          have HOk7:=kp ((jE wr h ex hh hex).below HB7.out)
          have HRow7:=kp ((HRow.out.below HBal0.out).below (HB7.out.mono HBal0.out.size))
          clear hb7
          go_wp2_with (first
            | (go_at_call 7;go_must (refine (jB wr.heap.size A13 n13 c13 (S.ids r 32) _ HRow7.out HIds.out (by omega) r HMask.out).mono ?_);rintro e w9 ⟨rfl,rfl⟩)
            | ((with_reducible show Sl 66);go_must (refine j1 rfl 30 (.tmp 15) rfl gS rfl _ (scC (sx wr h ex)) _ HS7.out Try.underlying30 rfl j7 ?_))
            | (go_at_call 8;fail))
          refine (jC _ (sx wr h ex) w7 HOk7.out HB7.out.size a5 HI5.out false HSolo.out).mono ?_
          rintro e w8 ⟨rfl,hb8⟩
          have HB8:=kp (HB7w.out.trans (hb8.mono hs7))
          clear hb8
          go_wp2
          go_ret
          exact ⟨rfl,HW2.out.trans (HB8.out.mono hs2)⟩
      by_cases hi1 : a5 = 1
      · have i0 : (a5 == 0) = false:=by rw [hi1];rfl
        have i1 : (a5 == 1) = true:=by rw [hi1];rfl
        have i2 : (a5 == 2) = false:=by rw [hi1];rfl
        by_cases hz : ex = 0
        · have hzb : ((ex : Int) == 0) = true:=by rw [hz];rfl
          have HSolo : Kept (decide (0 ≤ a5 ∧ a5 < ((sx wr h ex).live.len : Int) ∧ (sx wr h ex).live.z.getD a5.toNat 0 = 0) = true):=kp (by
            show decide (0 ≤ a5 ∧ a5 < ((3 : Nat) : Int) ∧ ([h,ex,0] : List Nat).getD a5.toNat 0 = 0) = true
            rw [hi1,hz];simp)
          clear hi1 hz
          go_wp2_with (first
            | ((with_reducible show Sl 15);go_must (refine j2 rfl 30 rfl (scC default) jF ?_);intro gS w5 hgS hk5 hb5;have HGS:=kp hgS;have HS5:=kp hk5;have HB5:=kp hb5;clear hgS hk5 hb5)
            | ((with_reducible show Sn);go_must (refine j5 rfl 30 (.tmp 15) (.tmp 37) rfl gS (scC (sx wr h ex)) rfl rfl _ _ HS5.out j7 rfl (jG _) ?_);intro w6 hk6 hg6 hz6;have HS6:=kp hk6;have HB6:=kp (HB5.out.grown hg6 HB5.out.size (fun k e => by cases e;exact HGS.out));clear hk6 hg6 hz6)
            | ((with_reducible show Sl 56);go_must (refine j3 rfl 23 (.tmp 6) rfl g1 rfl _ (ndC nd0) _ ((HKal.out.below HB6.out HKal.out.lt)) Try.underlying23 rfl jA ?_))
            | (go_at_call 6;fail))
          have HB6w:=kp (HBal.out.trans (HB6.out.mono HBal.out.size));have hs6:=HB6w.out.size
          refine (j8 nd0 HN.out h ex hh a3 HLo.out a4 r HR.out w6).mono ?_
          rintro e w7 ⟨rfl,hb7⟩
          have HB7:=kp (HB6.out.trans (hb7.mono HB6.out.size))
          have HB7w:=kp (HB6w.out.trans (hb7.mono hs6));have hs7:=HB7w.out.size
          have HS7:=kp (HS6.out.below hb7 HS6.out.lt)
          have HOk7:=kp ((jE wr h ex hh hex).below HB7.out)
          have HRow7:=kp ((HRow.out.below HBal0.out).below (HB7.out.mono HBal0.out.size))
          clear hb7
          go_wp2_with (first
            | (go_at_call 7;go_must (refine (jB wr.heap.size A13 n13 c13 (S.ids r 32) _ HRow7.out HIds.out (by omega) r HMask.out).mono ?_);rintro e w9 ⟨rfl,rfl⟩)
            | ((with_reducible show Sl 66);go_must (refine j1 rfl 30 (.tmp 15) rfl gS rfl _ (scC (sx wr h ex)) _ HS7.out Try.underlying30 rfl j7 ?_))
            | (go_at_call 8;fail))
          refine (jC _ (sx wr h ex) w7 HOk7.out HB7.out.size a5 HI5.out true HSolo.out).mono ?_
          rintro e w8 ⟨rfl,hb8⟩
          have HB8:=kp (HB7w.out.trans (hb8.mono hs7))
          clear hb8
          go_wp2
          go_ret
          exact ⟨rfl,HW2.out.trans (HB8.out.mono hs2)⟩
        · have hzb : ((ex : Int) == 0) = false:=by simp;omega
          have HSolo : Kept (decide (0 ≤ a5 ∧ a5 < ((sx wr h ex).live.len : Int) ∧ (sx wr h ex).live.z.getD a5.toNat 0 = 0) = false):=kp (by
            show decide (0 ≤ a5 ∧ a5 < ((3 : Nat) : Int) ∧ ([h,ex,0] : List Nat).getD a5.toNat 0 = 0) = false
            rw [hi1];simp;omega)
          clear hi1 hz
          go_wp2_with (first
            | ((with_reducible show Sl 15);go_must (refine j2 rfl 30 rfl (scC default) jF ?_);intro gS w5 hgS hk5 hb5;have HGS:=kp hgS;have HS5:=kp hk5;have HB5:=kp hb5;clear hgS hk5 hb5)
            | ((with_reducible show Sn);go_must (refine j5 rfl 30 (.tmp 15) (.tmp 37) rfl gS (scC (sx wr h ex)) rfl rfl _ _ HS5.out j7 rfl (jG _) ?_);intro w6 hk6 hg6 hz6;have HS6:=kp hk6;have HB6:=kp (HB5.out.grown hg6 HB5.out.size (fun k e => by cases e;exact HGS.out));clear hk6 hg6 hz6)
            | ((with_reducible show Sl 56);go_must (refine j3 rfl 23 (.tmp 6) rfl g1 rfl _ (ndC nd0) _ ((HKal.out.below HB6.out HKal.out.lt)) Try.underlying23 rfl jA ?_))
            | (go_at_call 6;fail))
          have HB6w:=kp (HBal.out.trans (HB6.out.mono HBal.out.size));have hs6:=HB6w.out.size
          refine (j8 nd0 HN.out h ex hh a3 HLo.out a4 r HR.out w6).mono ?_
          rintro e w7 ⟨rfl,hb7⟩
          have HB7:=kp (HB6.out.trans (hb7.mono HB6.out.size))
          have HB7w:=kp (HB6w.out.trans (hb7.mono hs6));have hs7:=HB7w.out.size
          have HS7:=kp (HS6.out.below hb7 HS6.out.lt)
          have HOk7:=kp ((jE wr h ex hh hex).below HB7.out)
          have HRow7:=kp ((HRow.out.below HBal0.out).below (HB7.out.mono HBal0.out.size))
          clear hb7
          go_wp2_with (first
            | (go_at_call 7;go_must (refine (jB wr.heap.size A13 n13 c13 (S.ids r 32) _ HRow7.out HIds.out (by omega) r HMask.out).mono ?_);rintro e w9 ⟨rfl,rfl⟩)
            | ((with_reducible show Sl 66);go_must (refine j1 rfl 30 (.tmp 15) rfl gS rfl _ (scC (sx wr h ex)) _ HS7.out Try.underlying30 rfl j7 ?_))
            | (go_at_call 8;fail))
          refine (jC _ (sx wr h ex) w7 HOk7.out HB7.out.size a5 HI5.out false HSolo.out).mono ?_
          rintro e w8 ⟨rfl,hb8⟩
          have HB8:=kp (HB7w.out.trans (hb8.mono hs7))
          clear hb8
          go_wp2
          go_ret
          exact ⟨rfl,HW2.out.trans (HB8.out.mono hs2)⟩
      by_cases hi2 : a5 = 2
      · have i0 : (a5 == 0) = false:=by rw [hi2];rfl
        have i1 : (a5 == 1) = false:=by rw [hi2];rfl
        have i2 : (a5 == 2) = true:=by rw [hi2];rfl
        have HSolo : Kept (decide (0 ≤ a5 ∧ a5 < ((sx wr h ex).live.len : Int) ∧ (sx wr h ex).live.z.getD a5.toNat 0 = 0) = true):=kp (by
          show decide (0 ≤ a5 ∧ a5 < ((3 : Nat) : Int) ∧ ([h,ex,0] : List Nat).getD a5.toNat 0 = 0) = true
          rw [hi2];simp)
        clear hi2
        go_wp2_with (first
          | ((with_reducible show Sl 15);go_must (refine j2 rfl 30 rfl (scC default) jF ?_);intro gS w5 hgS hk5 hb5;have HGS:=kp hgS;have HS5:=kp hk5;have HB5:=kp hb5;clear hgS hk5 hb5)
          | ((with_reducible show Sn);go_must (refine j5 rfl 30 (.tmp 15) (.tmp 37) rfl gS (scC (sx wr h ex)) rfl rfl _ _ HS5.out j7 rfl (jG _) ?_);intro w6 hk6 hg6 hz6;have HS6:=kp hk6;have HB6:=kp (HB5.out.grown hg6 HB5.out.size (fun k e => by cases e;exact HGS.out));clear hk6 hg6 hz6)
          | ((with_reducible show Sl 56);go_must (refine j3 rfl 23 (.tmp 6) rfl g1 rfl _ (ndC nd0) _ ((HKal.out.below HB6.out HKal.out.lt)) Try.underlying23 rfl jA ?_))
          | (go_at_call 6;fail))
        have HB6w:=kp (HBal.out.trans (HB6.out.mono HBal.out.size));have hs6:=HB6w.out.size
        refine (j8 nd0 HN.out h ex hh a3 HLo.out a4 r HR.out w6).mono ?_
        rintro e w7 ⟨rfl,hb7⟩
        have HB7:=kp (HB6.out.trans (hb7.mono HB6.out.size))
        have HB7w:=kp (HB6w.out.trans (hb7.mono hs6));have hs7:=HB7w.out.size
        have HS7:=kp (HS6.out.below hb7 HS6.out.lt)
        have HOk7:=kp ((jE wr h ex hh hex).below HB7.out)
        have HRow7:=kp ((HRow.out.below HBal0.out).below (HB7.out.mono HBal0.out.size))
        clear hb7
        go_wp2_with (first
          | (go_at_call 7;go_must (refine (jB wr.heap.size A13 n13 c13 (S.ids r 32) _ HRow7.out HIds.out (by omega) r HMask.out).mono ?_);rintro e w9 ⟨rfl,rfl⟩)
          | ((with_reducible show Sl 66);go_must (refine j1 rfl 30 (.tmp 15) rfl gS rfl _ (scC (sx wr h ex)) _ HS7.out Try.underlying30 rfl j7 ?_))
          | (go_at_call 8;fail))
        refine (jC _ (sx wr h ex) w7 HOk7.out HB7.out.size a5 HI5.out true HSolo.out).mono ?_
        rintro e w8 ⟨rfl,hb8⟩
        have HB8:=kp (HB7w.out.trans (hb8.mono hs7))
        clear hb8
        go_wp2
        go_ret
        exact ⟨rfl,HW2.out.trans (HB8.out.mono hs2)⟩
      have i0 : (a5 == 0) = false:=by simpa using hi0
      have i1 : (a5 == 1) = false:=by simpa using hi1
      have i2 : (a5 == 2) = false:=by simpa using hi2
      have HSolo : Kept (decide (0 ≤ a5 ∧ a5 < ((sx wr h ex).live.len : Int) ∧ (sx wr h ex).live.z.getD a5.toNat 0 = 0) = false):=kp (by
        show decide (0 ≤ a5 ∧ a5 < ((3 : Nat) : Int) ∧ ([h,ex,0] : List Nat).getD a5.toNat 0 = 0) = false
        rw [decide_eq_false_iff_not];rintro ⟨h1,h2,_⟩;omega)
      clear hi0 hi1 hi2
      go_wp2_with (first
        | ((with_reducible show Sl 15);go_must (refine j2 rfl 30 rfl (scC default) jF ?_);intro gS w5 hgS hk5 hb5;have HGS:=kp hgS;have HS5:=kp hk5;have HB5:=kp hb5;clear hgS hk5 hb5)
        | ((with_reducible show Sn);go_must (refine j5 rfl 30 (.tmp 15) (.tmp 37) rfl gS (scC (sx wr h ex)) rfl rfl _ _ HS5.out j7 rfl (jG _) ?_);intro w6 hk6 hg6 hz6;have HS6:=kp hk6;have HB6:=kp (HB5.out.grown hg6 HB5.out.size (fun k e => by cases e;exact HGS.out));clear hk6 hg6 hz6)
        | ((with_reducible show Sl 56);go_must (refine j3 rfl 23 (.tmp 6) rfl g1 rfl _ (ndC nd0) _ ((HKal.out.below HB6.out HKal.out.lt)) Try.underlying23 rfl jA ?_))
        | (go_at_call 6;fail))
      have HB6w:=kp (HBal.out.trans (HB6.out.mono HBal.out.size));have hs6:=HB6w.out.size
      refine (j8 nd0 HN.out h ex hh a3 HLo.out a4 r HR.out w6).mono ?_
      rintro e w7 ⟨rfl,hb7⟩
      have HB7:=kp (HB6.out.trans (hb7.mono HB6.out.size))
      have HB7w:=kp (HB6w.out.trans (hb7.mono hs6));have hs7:=HB7w.out.size
      have HS7:=kp (HS6.out.below hb7 HS6.out.lt)
      have HOk7:=kp ((jE wr h ex hh hex).below HB7.out)
      have HRow7:=kp ((HRow.out.below HBal0.out).below (HB7.out.mono HBal0.out.size))
      clear hb7
      go_wp2_with (first
        | (go_at_call 7;go_must (refine (jB wr.heap.size A13 n13 c13 (S.ids r 32) _ HRow7.out HIds.out (by omega) r HMask.out).mono ?_);rintro e w9 ⟨rfl,rfl⟩)
        | ((with_reducible show Sl 66);go_must (refine j1 rfl 30 (.tmp 15) rfl gS rfl _ (scC (sx wr h ex)) _ HS7.out Try.underlying30 rfl j7 ?_))
        | (go_at_call 8;fail))
      refine (jC _ (sx wr h ex) w7 HOk7.out HB7.out.size a5 HI5.out false HSolo.out).mono ?_
      rintro e w8 ⟨rfl,hb8⟩
      have HB8:=kp (HB7w.out.trans (hb8.mono hs7))
      clear hb8
      go_wp2
      go_ret
      exact ⟨rfl,HW2.out.trans (HB8.out.mono hs2)⟩
end Go.Proofs.Ytoekiejipdabmaa
