/- The document's Behind, walked. -/
import Derived.Test.YtoekiejipdabmaaPk1
namespace Go.Proofs.Ytoekiejipdabmaa
open Go.RowKit
set_option maxRecDepth 100000 in
set_option maxHeartbeats 3200000 in
theorem jN (n : Nd) (hn : n.Ok) (h ex : Nat) (hh : h < 4294967296) (hex : ex < 4294967296) (lost : Int) (b : Bool) (k : Nat) (hk : k < 32) (r : Bool) (hr : (Ma.behind n h ex lost b).testBit k = r) (w : World) :
    Calls Try.prog 5 #[ndA n,.int .u32 (h : Int),.int .u32 (ex : Int),.int .i64 lost,.bool b,.int .i64 (k : Int)] w fun e w' => e = .returned (.bool r) ∧ Below w.heap.size w w':=by
  rw [Ma.behind_bit hk] at hr
  have HNa:=kp hn.alt
  obtain ⟨is,his⟩ : ∃ q,h.testBit k = q:=⟨_,rfl⟩
  have HIs : Kept (S.has h (k : Int) = is):=kp (by rw [S.has_in _ _ (by omega)];exact his)
  obtain ⟨al,hal⟩ : ∃ q,S.has h n.alt = q:=⟨_,rfl⟩
  have HAl:=kp hal
  obtain ⟨xe,hxe⟩ : ∃ q,ex.testBit k = q:=⟨_,rfl⟩
  have HEx : Kept (S.has ex (k : Int) = xe):=kp (by rw [S.has_in _ _ (by omega)];exact hxe)
  rw [his,hal,hxe] at hr
  clear his hal hxe hn
  rw [show ndA n = .agg (ndC n).toArray from rfl]
  go_enter Try.func5,Try.ntmps5
  by_cases h5 : n.kind = 5
  · have hk5 : (n.kind == 5) = true:=by simpa using h5
    rw [if_pos h5] at hr
    have HR:=kp hr
    clear hr
    cases is with
    | true =>
      have HE : Kept ((true : Bool) = r):=kp (by simpa using HR.out)
      clear h5
      go_wp2_with (first
        | ((with_reducible refine j0 rfl 23 (.tmp 0) rfl (ndC n) rfl ?_);intro g1 w1 hg1 hk1 hw1;obtain ⟨hc0,hc1,hc2,hc3⟩:=j6 hk1;have HW1:=kp hw1;clear hg1 hk1 hw1)
        | (go_at_call_of 10 #[Value.int .u32 (h : Int),Value.int .i64 (k : Int)];go_must (refine (j9 h hh (k : Int) ⟨by omega,by omega⟩ _ HIs.out _).mono ?_);rintro e w9 ⟨rfl,rfl⟩))
      go_ret
      exact ⟨j4 HE.out,HW1.out⟩
    | false =>
      by_cases hka : (k : Int) = n.alt
      · have hkb : ((k : Int) == n.alt) = true:=by simpa using hka
        have HE : Kept ((true : Bool) = r):=kp (by have h1:=HR.out;rw [hkb] at h1;simpa using h1)
        clear h5 hka
        go_wp2_with (first
          | ((with_reducible refine j0 rfl 23 (.tmp 0) rfl (ndC n) rfl ?_);intro g1 w1 hg1 hk1 hw1;obtain ⟨hc0,hc1,hc2,hc3⟩:=j6 hk1;have HW1:=kp hw1;clear hg1 hk1 hw1)
          | (go_at_call_of 10 #[Value.int .u32 (h : Int),Value.int .i64 (k : Int)];go_must (refine (j9 h hh (k : Int) ⟨by omega,by omega⟩ _ HIs.out _).mono ?_);rintro e w9 ⟨rfl,rfl⟩))
        go_ret
        exact ⟨j4 HE.out,HW1.out⟩
      have hkb : ((k : Int) == n.alt) = false:=by simpa using hka
      by_cases hkl : (k : Int) = lost
      rotate_left
      · have hlb : ((k : Int) == lost) = false:=by simpa using hkl
        have HE : Kept ((false : Bool) = r):=kp (by have h1:=HR.out;rw [hkb,hlb] at h1;simpa using h1)
        clear h5 hka hkl
        go_wp2_with (first
          | ((with_reducible refine j0 rfl 23 (.tmp 0) rfl (ndC n) rfl ?_);intro g1 w1 hg1 hk1 hw1;obtain ⟨hc0,hc1,hc2,hc3⟩:=j6 hk1;have HW1:=kp hw1;clear hg1 hk1 hw1)
          | (go_at_call_of 10 #[Value.int .u32 (h : Int),Value.int .i64 (k : Int)];go_must (refine (j9 h hh (k : Int) ⟨by omega,by omega⟩ _ HIs.out _).mono ?_);rintro e w9 ⟨rfl,rfl⟩))
        go_ret
        exact ⟨j4 HE.out,HW1.out⟩
      have hlb : ((k : Int) == lost) = true:=by simpa using hkl
      cases b with
      | true =>
        have HE : Kept ((true : Bool) = r):=kp (by have h1:=HR.out;rw [hkb,hlb] at h1;simpa using h1)
        clear h5 hka hkl
        go_wp2_with (first
          | ((with_reducible refine j0 rfl 23 (.tmp 0) rfl (ndC n) rfl ?_);intro g1 w1 hg1 hk1 hw1;obtain ⟨hc0,hc1,hc2,hc3⟩:=j6 hk1;have HW1:=kp hw1;clear hg1 hk1 hw1)
          | (go_at_call_of 10 #[Value.int .u32 (h : Int),Value.int .i64 (k : Int)];go_must (refine (j9 h hh (k : Int) ⟨by omega,by omega⟩ _ HIs.out _).mono ?_);rintro e w9 ⟨rfl,rfl⟩))
        go_ret
        exact ⟨j4 HE.out,HW1.out⟩
      | false =>
        have HE : Kept (al = r):=kp (by have h1:=HR.out;rw [hkb,hlb] at h1;simpa using h1)
        have hne : ¬ ((k : Int) = n.alt):=hka
        clear h5 hka hkl
        go_wp2_with (first
          | ((with_reducible refine j0 rfl 23 (.tmp 0) rfl (ndC n) rfl ?_);intro g1 w1 hg1 hk1 hw1;obtain ⟨hc0,hc1,hc2,hc3⟩:=j6 hk1;have HW1:=kp hw1;clear hg1 hk1 hw1)
          | (go_at_call_of 10 #[Value.int .u32 (h : Int),Value.int .i64 (k : Int)];go_must (refine (j9 h hh (k : Int) ⟨by omega,by omega⟩ _ HIs.out _).mono ?_);rintro e w9 ⟨rfl,rfl⟩)
          | (go_at_call_of 10 #[Value.int .u32 (h : Int),Value.int .i64 n.alt];go_must (refine (j9 h hh n.alt HNa.out _ HAl.out _).mono ?_);rintro e w9 ⟨rfl,rfl⟩))
        go_ret
        exact ⟨j4 HE.out,HW1.out⟩
  have hk5 : (n.kind == 5) = false:=by simpa using h5
  rw [if_neg h5] at hr
  by_cases h6 : n.kind = 6
  · have hk6 : (n.kind == 6) = true:=by simpa using h6
    rw [if_pos h6] at hr
    have HR:=kp hr
    clear hr
    cases is with
    | false =>
      have HE : Kept ((false : Bool) = r):=kp (by simpa using HR.out)
      clear h5 h6
      go_wp2_with (first
        | ((with_reducible refine j0 rfl 23 (.tmp 0) rfl (ndC n) rfl ?_);intro g1 w1 hg1 hk1 hw1;obtain ⟨hc0,hc1,hc2,hc3⟩:=j6 hk1;have HW1:=kp hw1;clear hg1 hk1 hw1)
        | (go_at_call_of 10 #[Value.int .u32 (h : Int),Value.int .i64 (k : Int)];go_must (refine (j9 h hh (k : Int) ⟨by omega,by omega⟩ _ HIs.out _).mono ?_);rintro e w9 ⟨rfl,rfl⟩))
      go_ret
      exact ⟨j4 HE.out,HW1.out⟩
    | true =>
      have HE : Kept (((k : Int) != n.arg : Bool) = r):=kp (by simpa using HR.out)
      clear h5 h6
      go_wp2_with (first
        | ((with_reducible refine j0 rfl 23 (.tmp 0) rfl (ndC n) rfl ?_);intro g1 w1 hg1 hk1 hw1;obtain ⟨hc0,hc1,hc2,hc3⟩:=j6 hk1;have HW1:=kp hw1;clear hg1 hk1 hw1)
        | (go_at_call_of 10 #[Value.int .u32 (h : Int),Value.int .i64 (k : Int)];go_must (refine (j9 h hh (k : Int) ⟨by omega,by omega⟩ _ HIs.out _).mono ?_);rintro e w9 ⟨rfl,rfl⟩))
      go_ret
      exact ⟨j4 HE.out,HW1.out⟩
  have hk6 : (n.kind == 6) = false:=by simpa using h6
  rw [if_neg h6] at hr
  by_cases h7 : n.kind = 7
  · have hk7 : (n.kind == 7) = true:=by simpa using h7
    rw [if_pos h7] at hr
    have HE:=kp hr
    clear hr h5 h6 h7
    go_wp2_with (first
      | ((with_reducible refine j0 rfl 23 (.tmp 0) rfl (ndC n) rfl ?_);intro g1 w1 hg1 hk1 hw1;obtain ⟨hc0,hc1,hc2,hc3⟩:=j6 hk1;have HW1:=kp hw1;clear hg1 hk1 hw1)
      | (go_at_call_of 10 #[Value.int .u32 (h : Int),Value.int .i64 (k : Int)];go_must (refine (j9 h hh (k : Int) ⟨by omega,by omega⟩ _ HIs.out _).mono ?_);rintro e w9 ⟨rfl,rfl⟩)
      | (go_at_call_of 10 #[Value.int .u32 (ex : Int),Value.int .i64 (k : Int)];go_must (refine (j9 ex hex (k : Int) ⟨by omega,by omega⟩ _ HEx.out _).mono ?_);rintro e w9 ⟨rfl,rfl⟩))
    go_ret
    exact ⟨j4 HE.out,HW1.out⟩
  · have hk7 : (n.kind == 7) = false:=by simpa using h7
    rw [if_neg h7] at hr
    have HE:=kp hr
    clear hr h5 h6 h7
    go_wp2_with (first
      | ((with_reducible refine j0 rfl 23 (.tmp 0) rfl (ndC n) rfl ?_);intro g1 w1 hg1 hk1 hw1;obtain ⟨hc0,hc1,hc2,hc3⟩:=j6 hk1;have HW1:=kp hw1;clear hg1 hk1 hw1)
      | (go_at_call_of 10 #[Value.int .u32 (h : Int),Value.int .i64 (k : Int)];go_must (refine (j9 h hh (k : Int) ⟨by omega,by omega⟩ _ HIs.out _).mono ?_);rintro e w9 ⟨rfl,rfl⟩))
    go_ret
    exact ⟨j4 HE.out,HW1.out⟩
end Go.Proofs.Ytoekiejipdabmaa
