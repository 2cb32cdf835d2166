/- The program's Behind, Lost, walked. -/
import Derived.Test.YtoekiejipdabmaaPk1
import Derived.Laws.BitsAllLaws
namespace Go.Proofs.Ytoekiejipdabmaa
open Go.RowKit
set_option maxRecDepth 100000 in
set_option maxHeartbeats 1600000 in
theorem j8 (n : Nd) (hn : n.Ok) (h ex : Nat) (hh : h < 4294967296) (lost : Int) (hl : I64 lost) (b : Bool) (r : Nat) (hr : Ma.behind n h ex lost b = r) (w : World) :
    Calls Try.prog 6 #[ndA n,.int .u32 (h : Int),.int .u32 (ex : Int),.int .i64 lost,.bool b] w fun e w' => e = .returned (.int .u32 (r : Int)) ∧ Below w.heap.size w w':=by
  have HR:=kp hr;have HNr:=kp hn.arg;have HNa:=kp hn.alt;have HLo:=kp hl
  clear hr hn hl
  rw [show ndA n = .agg (ndC n).toArray from rfl]
  obtain ⟨q,hqe⟩ : ∃ q,S.one lost = q:=⟨_,rfl⟩
  have hq : q < 4294967296:=by rw [← hqe];exact S.one_lt _
  obtain ⟨qa,hqae⟩ : ∃ q,S.one n.alt = q:=⟨_,rfl⟩
  have hqa : qa < 4294967296:=by rw [← hqae];exact S.one_lt _
  obtain ⟨qr,hqre⟩ : ∃ q,S.one n.arg = q:=⟨_,rfl⟩
  have hqr : qr < 4294967296:=by rw [← hqre];exact S.one_lt _
  have HQl:=kp hqe;have HQa:=kp hqae;have HQr:=kp hqre
  clear hqe hqae hqre
  obtain ⟨hb,hhb⟩ : ∃ q,S.has h n.alt = q:=⟨_,rfl⟩
  have HHas:=kp hhb
  clear hhb
  go_enter Try.func6,Try.ntmps6
  by_cases h5 : n.kind = 5
  · have hk : (n.kind == 5) = true:=by simpa using h5
    cases b with
    | true =>
      have HE : Kept ((h ||| q) ||| qa = r):=kp (by rw [← HR.out,← HQl.out,← HQa.out];unfold Ma.behind;rw [if_pos h5,if_pos (by simp)])
      have hor : bits .or .u32 (h : Int) (q : Int) = ((h ||| q : Nat) : Int):=u32_or_nat h q hh hq
      have hlt : h ||| q < 4294967296:=Nat.or_lt_two_pow (n:=32) hh hq
      obtain ⟨z,hz⟩ : ∃ z,h ||| q = z:=⟨_,rfl⟩
      rw [hz] at hor hlt HE
      have hor2 : bits .or .u32 (z : Int) (qa : Int) = ((z ||| qa : Nat) : Int):=u32_or_nat z qa hlt hqa
      clear h5 hz
      go_wp2_with (first
        | ((with_reducible refine j0 rfl 23 (.tmp 0) rfl (ndC n) rfl ?_);intro g1 w1 hg1 hk1 hw1;obtain ⟨hc0,hc1,hc2,hc3⟩:=j6 hk1;have HW1:=kp hw1;clear hg1 hk1 hw1)
        | (go_at_call_of 12 (Value.int .i64 lost);go_must (refine (jD lost HLo.out q HQl.out _).mono ?_);rintro e w3 ⟨rfl,rfl⟩)
        | (go_at_call_of 12 (Value.int .i64 n.alt);go_must (refine (jD n.alt HNa.out qa HQa.out _).mono ?_);rintro e w3 ⟨rfl,rfl⟩))
      go_ret
      exact ⟨by rw [← HE.out];rfl,HW1.out⟩
    | false =>
      cases hb with
      | true =>
        have HE : Kept ((h ||| q) ||| qa = r):=kp (by rw [← HR.out,← HQl.out,← HQa.out];unfold Ma.behind;rw [if_pos h5,if_pos (by rw [HHas.out];rfl)])
        have hor : bits .or .u32 (h : Int) (q : Int) = ((h ||| q : Nat) : Int):=u32_or_nat h q hh hq
        have hlt : h ||| q < 4294967296:=Nat.or_lt_two_pow (n:=32) hh hq
        obtain ⟨z,hz⟩ : ∃ z,h ||| q = z:=⟨_,rfl⟩
        rw [hz] at hor hlt HE
        have hor2 : bits .or .u32 (z : Int) (qa : Int) = ((z ||| qa : Nat) : Int):=u32_or_nat z qa hlt hqa
        clear h5 hz
        go_wp2_with (first
          | ((with_reducible refine j0 rfl 23 (.tmp 0) rfl (ndC n) rfl ?_);intro g1 w1 hg1 hk1 hw1;obtain ⟨hc0,hc1,hc2,hc3⟩:=j6 hk1;have HW1:=kp hw1;clear hg1 hk1 hw1)
          | (go_at_call 11;go_must (refine (jT h hh n.alt HNa.out true HHas.out _).mono ?_);rintro e w3 ⟨rfl,rfl⟩)
          | (go_at_call_of 12 (Value.int .i64 lost);go_must (refine (jD lost HLo.out q HQl.out _).mono ?_);rintro e w3 ⟨rfl,rfl⟩)
          | (go_at_call_of 12 (Value.int .i64 n.alt);go_must (refine (jD n.alt HNa.out qa HQa.out _).mono ?_);rintro e w3 ⟨rfl,rfl⟩))
        go_ret
        exact ⟨by rw [← HE.out];rfl,HW1.out⟩
      | false =>
        have HE : Kept (h ||| qa = r):=kp (by rw [← HR.out,← HQa.out];unfold Ma.behind;rw [if_pos h5,if_neg (by rw [HHas.out];simp)])
        have hor2 : bits .or .u32 (h : Int) (qa : Int) = ((h ||| qa : Nat) : Int):=u32_or_nat h qa hh hqa
        clear h5
        go_wp2_with (first
          | ((with_reducible refine j0 rfl 23 (.tmp 0) rfl (ndC n) rfl ?_);intro g1 w1 hg1 hk1 hw1;obtain ⟨hc0,hc1,hc2,hc3⟩:=j6 hk1;have HW1:=kp hw1;clear hg1 hk1 hw1)
          | (go_at_call 11;go_must (refine (jT h hh n.alt HNa.out false HHas.out _).mono ?_);rintro e w3 ⟨rfl,rfl⟩)
          | (go_at_call_of 12 (Value.int .i64 n.alt);go_must (refine (jD n.alt HNa.out qa HQa.out _).mono ?_);rintro e w3 ⟨rfl,rfl⟩))
        go_ret
        exact ⟨by rw [← HE.out];rfl,HW1.out⟩
  have hk5 : (n.kind == 5) = false:=by simpa using h5
  by_cases h6 : n.kind = 6
  · have hk : (n.kind == 6) = true:=by simpa using h6
    have HE : Kept (h &&& (4294967295 - qr) = r):=kp (by rw [← HR.out,← HQr.out];unfold Ma.behind;rw [if_neg h5,if_pos h6])
    have hor : bits .andNot .u32 (h : Int) (qr : Int) = ((h &&& (4294967295 - qr) : Nat) : Int):=u32_andNot_nat h qr hh hqr
    clear h5 h6
    go_wp2_with (first
      | ((with_reducible refine j0 rfl 23 (.tmp 0) rfl (ndC n) rfl ?_);intro g1 w1 hg1 hk1 hw1;obtain ⟨hc0,hc1,hc2,hc3⟩:=j6 hk1;have HW1:=kp hw1;clear hg1 hk1 hw1)
      | (go_at_call 12;go_must (refine (jD n.arg HNr.out qr HQr.out _).mono ?_);rintro e w3 ⟨rfl,rfl⟩))
    go_ret
    exact ⟨by rw [← HE.out];rfl,HW1.out⟩
  have hk6 : (n.kind == 6) = false:=by simpa using h6
  by_cases h7 : n.kind = 7
  · have hk : (n.kind == 7) = true:=by simpa using h7
    have HE : Kept (ex = r):=kp (by rw [← HR.out];unfold Ma.behind;rw [if_neg h5,if_neg h6,if_pos h7])
    clear h5 h6 h7
    go_wp2_with (first
      | ((with_reducible refine j0 rfl 23 (.tmp 0) rfl (ndC n) rfl ?_);intro g1 w1 hg1 hk1 hw1;obtain ⟨hc0,hc1,hc2,hc3⟩:=j6 hk1;have HW1:=kp hw1;clear hg1 hk1 hw1))
    go_ret
    exact ⟨by rw [← HE.out];rfl,HW1.out⟩
  · have hk : (n.kind == 7) = false:=by simpa using h7
    have HE : Kept (h = r):=kp (by rw [← HR.out];unfold Ma.behind;rw [if_neg h5,if_neg h6,if_neg h7])
    clear h5 h6 h7
    go_wp2_with (first
      | ((with_reducible refine j0 rfl 23 (.tmp 0) rfl (ndC n) rfl ?_);intro g1 w1 hg1 hk1 hw1;obtain ⟨hc0,hc1,hc2,hc3⟩:=j6 hk1;have HW1:=kp hw1;clear hg1 hk1 hw1))
    go_ret
    exact ⟨by rw [← HE.out];rfl,HW1.out⟩
set_option maxRecDepth 100000 in
set_option maxHeartbeats 800000 in
theorem l2 (p : Pg) (w : World) : Calls Try.prog 9 #[pgA p] w fun e w' => e = .returned (.int .i64 p.s) ∧ Below w.heap.size w w':=by
  rw [l8]
  go_enter Try.func9,Try.ntmps9
  go_wp2_with (first
    | ((with_reducible refine j0 rfl 37 (.tmp 0) rfl (pgC p) rfl ?_);intro g1 w1 hg1 hk1 hw1;obtain ⟨hc0,hc1,hc2,hc3⟩:=l0 hk1;have HW1:=kp hw1;clear hg1 hk1 hw1))
  go_ret
  exact ⟨rfl,HW1.out⟩
end Go.Proofs.Ytoekiejipdabmaa
