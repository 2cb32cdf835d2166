/- SeekAwk, SeekLaw0. -/
import Derived.Test.YtnaomfmmkhgbhaaPk11
import Derived.Test.YtnaomfmmkhgbhaaSeekP7
import Derived.Test.YtnaomfmmkhgbhaaPk10
namespace Go.Proofs.Ytnaomfmmkhgbhaa
open Go.RowKit
set_option maxRecDepth 100000 in
set_option maxHeartbeats 3200000 in
theorem jX (w : World) : Calls Try.prog 8 #[] w fun e w' => e = .returned (.bool true) ∧ Below w.heap.size w w':=by
  have Ha : Kept (Blk (((w.alloc (.cells #[.int .i64 5,.int .i64 1,.int .i64 1,.int .i64 0,.int .i64 2,.int .i64 0,.int .i64 2,.int .i64 0,.int .i64 9,.int .i64 0,.int .i64 0,.int .i64 0] 55)).alloc (.cells #[.int .i64 2,.int .i64 0,.int .i64 1,.int .i64 0,.int .i64 9,.int .i64 0,.int .i64 0,.int .i64 0] 55)).alloc (.cells #[.slice (some ⟨w.heap.size,0,none⟩) 3 3,.slice (some ⟨w.heap.size + 1,0,none⟩) 2 2] 56)) w.heap.size 55 [.int .i64 5,.int .i64 1,.int .i64 1,.int .i64 0,.int .i64 2,.int .i64 0,.int .i64 2,.int .i64 0,.int .i64 9,.int .i64 0,.int .i64 0,.int .i64 0]):=kp (((Blk.newAt rfl rfl).alloc _).alloc _)
  have Hb : Kept (Blk (((w.alloc (.cells #[.int .i64 5,.int .i64 1,.int .i64 1,.int .i64 0,.int .i64 2,.int .i64 0,.int .i64 2,.int .i64 0,.int .i64 9,.int .i64 0,.int .i64 0,.int .i64 0] 55)).alloc (.cells #[.int .i64 2,.int .i64 0,.int .i64 1,.int .i64 0,.int .i64 9,.int .i64 0,.int .i64 0,.int .i64 0] 55)).alloc (.cells #[.slice (some ⟨w.heap.size,0,none⟩) 3 3,.slice (some ⟨w.heap.size + 1,0,none⟩) 2 2] 56)) (w.heap.size + 1) 55 [.int .i64 2,.int .i64 0,.int .i64 1,.int .i64 0,.int .i64 9,.int .i64 0,.int .i64 0,.int .i64 0]):=kp ((Blk.newAt rfl (by simp)).alloc _)
  have Hc : Kept (Blk (((w.alloc (.cells #[.int .i64 5,.int .i64 1,.int .i64 1,.int .i64 0,.int .i64 2,.int .i64 0,.int .i64 2,.int .i64 0,.int .i64 9,.int .i64 0,.int .i64 0,.int .i64 0] 55)).alloc (.cells #[.int .i64 2,.int .i64 0,.int .i64 1,.int .i64 0,.int .i64 9,.int .i64 0,.int .i64 0,.int .i64 0] 55)).alloc (.cells #[.slice (some ⟨w.heap.size,0,none⟩) 3 3,.slice (some ⟨w.heap.size + 1,0,none⟩) 2 2] 56)) (w.heap.size + 2) 56 [.slice (some ⟨w.heap.size,0,none⟩) 3 3,.slice (some ⟨w.heap.size + 1,0,none⟩) 2 2]):=kp (Blk.newAt rfl (by simp))
  have HB : Kept (Below w.heap.size w (((w.alloc (.cells #[.int .i64 5,.int .i64 1,.int .i64 1,.int .i64 0,.int .i64 2,.int .i64 0,.int .i64 2,.int .i64 0,.int .i64 9,.int .i64 0,.int .i64 0,.int .i64 0] 55)).alloc (.cells #[.int .i64 2,.int .i64 0,.int .i64 1,.int .i64 0,.int .i64 9,.int .i64 0,.int .i64 0,.int .i64 0] 55)).alloc (.cells #[.slice (some ⟨w.heap.size,0,none⟩) 3 3,.slice (some ⟨w.heap.size + 1,0,none⟩) 2 2] 56))):=kp ((((Below.refl _ _).alloc (Nat.le_refl _) _).alloc (by simp) _).alloc (by simp;omega) _)
  obtain ⟨w3,hw3⟩ : ∃ y,y = (((w.alloc (.cells #[.int .i64 5,.int .i64 1,.int .i64 1,.int .i64 0,.int .i64 2,.int .i64 0,.int .i64 2,.int .i64 0,.int .i64 9,.int .i64 0,.int .i64 0,.int .i64 0] 55)).alloc (.cells #[.int .i64 2,.int .i64 0,.int .i64 1,.int .i64 0,.int .i64 9,.int .i64 0,.int .i64 0,.int .i64 0] 55)).alloc (.cells #[.slice (some ⟨w.heap.size,0,none⟩) 3 3,.slice (some ⟨w.heap.size + 1,0,none⟩) 2 2] 56)):=⟨_,rfl⟩
  have hz3 : w3.heap.size = w.heap.size + 3:=by rw [hw3];simp
  rw [← hw3] at Ha Hb Hc HB
  have HOk3 : Kept ((pgTwo w.heap.size).Ok w3 w3.heap.size):=kp (pgTwo_ok w3 w.heap.size Ha.out Hb.out Hc.out)
  have HW3e:=kp hw3
  clear hw3
  go_enter Try.func8,Try.ntmps8
  go_wp2_with (first
    | ((with_reducible show Sl 1);go_must (rw [← HW3e.out];refine j3 rfl 24 rfl [.int .i64 0,.int .i64 0,.int .i64 0,.slice none 0 0] (by kernel_rfl) ?_);intro g1 w4 hg1 hk1 hw4;have HK14:=kp hk1;have HM4:=kp hw4;have HG1:=kp hg1;clear hk1 hw4 hg1)
    | ((with_reducible show Sn);refine j4 rfl 24 (.tmp 1) (.tmp 16) rfl g1 (pgC (pgTwo w.heap.size)) rfl rfl _ _ HK14.out jD rfl (by simp [pgC,Value.oneCell']) ?_;intro w5 hk5 hg5 hz5
       have HK15:=kp hk5;have HM5:=kp (HM4.out.grown hg5 HM4.out.size (fun k e => by cases e;exact HG1.out));have hz35:=HM5.out.size;have HOk5:=kp (HOk3.out.below HM5.out);have HW5:=kp (HB.out.trans (HM5.out.mono HB.out.size));clear hk5 hg5 hz5)
    | ((with_reducible show Sl 18);go_must (refine j1 rfl 24 (.tmp 1) rfl g1 rfl _ (pgC (pgTwo w.heap.size)) _ HK15.out Try.underlying24 rfl jD ?_))
    | (go_at_call 10;fail))
  refine (xZ w3.heap.size (pgTwo w.heap.size) 9 (by omega) w5 HOk5.out hz35 0 0 0 (check_two _)).mono ?_
  unfold FindPost
  rintro e w6 ⟨L1,n1,c1,l1,is1,rfl,ho1,hn1,hout1,_,hb6⟩
  obtain ⟨hl1,hi1⟩:=K.out_one (hout1 rfl) (out_pgTwo _)
  subst hl1 hi1
  have HW6:=kp (HW5.out.trans (hb6.mono HW5.out.size))
  have HO6:=kp ho1
  have hs6:=HW6.out.size
  have Hd : Kept (Blk ((w6.alloc (.cells #[.int .i64 9,.int .i64 0,.int .i64 0,.int .i64 0] 55)).alloc (.cells #[.slice (some ⟨w6.heap.size,0,none⟩) 1 1] 56)) w6.heap.size 55 [.int .i64 9,.int .i64 0,.int .i64 0,.int .i64 0]):=kp ((Blk.newAt rfl rfl).alloc _)
  have He : Kept (Blk ((w6.alloc (.cells #[.int .i64 9,.int .i64 0,.int .i64 0,.int .i64 0] 55)).alloc (.cells #[.slice (some ⟨w6.heap.size,0,none⟩) 1 1] 56)) (w6.heap.size + 1) 56 [.slice (some ⟨w6.heap.size,0,none⟩) 1 1]):=kp (Blk.newAt rfl (by simp))
  have HB8 : Kept (Below w6.heap.size w6 ((w6.alloc (.cells #[.int .i64 9,.int .i64 0,.int .i64 0,.int .i64 0] 55)).alloc (.cells #[.slice (some ⟨w6.heap.size,0,none⟩) 1 1] 56))):=kp (((Below.refl _ _).alloc (Nat.le_refl _) _).alloc (by simp) _)
  have HOk8 : Kept ((pgLone w6.heap.size).Ok ((w6.alloc (.cells #[.int .i64 9,.int .i64 0,.int .i64 0,.int .i64 0] 55)).alloc (.cells #[.slice (some ⟨w6.heap.size,0,none⟩) 1 1] 56)) ((w6.alloc (.cells #[.int .i64 9,.int .i64 0,.int .i64 0,.int .i64 0] 55)).alloc (.cells #[.slice (some ⟨w6.heap.size,0,none⟩) 1 1] 56)).heap.size):=kp (pgLone_ok _ w6.heap.size Hd.out He.out)
  obtain ⟨w8,hw8⟩ : ∃ y,y = ((w6.alloc (.cells #[.int .i64 9,.int .i64 0,.int .i64 0,.int .i64 0] 55)).alloc (.cells #[.slice (some ⟨w6.heap.size,0,none⟩) 1 1] 56)):=⟨_,rfl⟩
  rw [← hw8] at HB8 HOk8
  have HW8e:=kp hw8
  clear Hd He hw8 hout1 hb6 ho1 hn1
  go_wp2_with (go_at_call 10;fail)
  rw [← HW8e.out]
  refine (xZ w8.heap.size (pgLone w6.heap.size) 9 (by omega) w8 HOk8.out (Nat.le_refl _) 0 0 0 (check_one _)).mono ?_
  unfold FindPost
  rintro e w9 ⟨L2,n2,c2,l2,is2,rfl,ho2,hn2,hout2,_,hb9⟩
  obtain ⟨hl2,hi2⟩:=K.out_one (hout2 rfl) (out_pgLone _)
  subst hl2 hi2
  have HW9:=kp (HW6.out.trans ((HB8.out.trans (hb9.mono HB8.out.size)).mono hs6))
  have HO9:=kp (HO6.out.below (HB8.out.trans (hb9.mono HB8.out.size)) (Nat.le_refl _))
  clear hout2 hb9 ho2 hn2
  have hn1 : n1 = 1:=HO9.out.1.symm
  subst hn1
  obtain ⟨gL,offL,rfl⟩ : ∃ g off,L1 = some ⟨g,off,none⟩:=by
    rcases HO9.out.2.2.2 with ⟨_,h0⟩ | ⟨g,o,cur,h1,_⟩
    · have:=HO9.out.2.1;omega
    · exact ⟨g,o,h1⟩
  have hc0 : w9.cell? ⟨gL,offL,none⟩ = some (.int .i64 0):=HO9.out.cellAt (k:=0) rfl (show 0 < 2 by omega)
  have hc1 : w9.cell? ⟨gL,offL + 1,none⟩ = some (.bool false):=HO9.out.cellAt (k:=0) rfl (show 1 < 2 by omega)
  go_wp2
  go_ret
  exact ⟨rfl,HW9.out⟩
theorem K.out_not {p : Pg} {most : Int} {l : List (Int × Bool)} {is : Nat} (h : K.Out p most l is) (hn : is ≠ 1) : l = []:=by
  obtain ⟨k,_,h2⟩:=h
  rcases h2 with ⟨_,_,_,h4⟩ | ⟨_,h3,_⟩
  · exact absurd h4 hn
  · exact h3
theorem K.out_is {p : Pg} {most : Int} {l : List (Int × Bool)} {is : Nat} (h : K.Out p most l is) : is = 0 ∨ is = 1 ∨ is = 2:=by
  obtain ⟨k,_,h2⟩:=h
  rcases h2 with ⟨_,_,_,h4⟩ | ⟨_,_,h4⟩
  · exact .inr (.inl h4)
  · rw [h4];split <;> simp
theorem K.found_i64 {p : Pg} (hf : Fine p) (hl : p.fns.length = p.len) {l : List (Int × Bool)} (h : K.Found p l) : ∀ x ∈ l,I64 x.1:=by
  intro x hx
  obtain ⟨j,hj⟩:=List.mem_iff_getElem?.1 hx
  obtain ⟨h0,he⟩:=h.may j x hj
  have hlt:=M.lives_lt (M.enabled_lives he)
  have hm:=(qT hf hl l j).most
  have hm2 : (K.to p l j).ths.length ≤ 8:=hm
  unfold I64
  omega
theorem K.out_i64 {p : Pg} (hf : Fine p) (hl : p.fns.length = p.len) {most : Int} {l : List (Int × Bool)} {is : Nat} (h : K.Out p most l is) : ∀ x ∈ l,I64 x.1:=by
  by_cases h1 : is = 1
  · subst h1;exact K.found_i64 hf hl (K.out_found hf hl h).1
  · rw [K.out_not h h1];intro x hx;cases hx
end Go.Proofs.Ytnaomfmmkhgbhaa
