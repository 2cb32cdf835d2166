/- WSeekNone, SemPicks. -/
import Derived.Test.YtnaomfmmkhgbhaaPk16
import Derived.Test.YtnaomfmmkhgbhaaPk11
import Derived.Test.YtnaomfmmkhgbhaaPk1
import Derived.Test.YtnaomfmmkhgbhaaPk17
import Derived.Test.YtnaomfmmkhgbhaaPk23
import Derived.Test.YtnaomfmmkhgbhaaPk10
namespace Go.Proofs.Ytnaomfmmkhgbhaa
open Go.RowKit
set_option maxRecDepth 1000000 in
set_option maxHeartbeats 8000000 in
theorem walkSeekNone (pg0 : Pg) (a1 : Int) (a2 : Option Addr) (len2 cap2 : Nat) (z2 : List (Int × Bool)) (w : World) (w0 : pg0.Ok w w.heap.size) (w1 : (Lit.int .u16 a1).wf = true) (w2 : Picks w w.heap.size a2 len2 z2) (c2 : len2 ≤ cap2 ∧ cap2 ≤ maxLen) :
    Calls Try.prog 5 #[pgA pg0,.int .u16 a1,.slice a2 len2 cap2] w fun e w' => e = .returned (.bool true) ∧ Below w.heap.size w w':=by
  have HP:=kp w0
  have ha1:=x7 a1 w1
  have HPi:=kp w2
  have hm2:=c2.1;have hm3:=c2.2
  unfold maxLen at hm3
  obtain ⟨r,hr⟩ : ∃ r,Q.small pg0 = r:=⟨_,rfl⟩
  have HR:=kp hr
  obtain ⟨⟨ca,cb,cc⟩,hc⟩ : ∃ x,Q.check pg0 = x:=⟨_,rfl⟩
  have HC:=kp hc
  clear hr w0 w1 w2 c2 hc
  rw [jI]
  by_cases hbig : 300 < len2
  · go_enter Try.func5,Try.ntmps5
    go_wp2_with (first
      | ((with_reducible refine j2 rfl 24 (.tmp 0) rfl (pgC pg0) rfl ?_);intro g1 u1 hg1 hk1 hu1;have HK1:=kp hk1;have HU1:=kp hu1;have hz1:=hu1.size;have hl1:=hk1.lt;clear hg1 hk1 hu1)
      | (go_at_call 8;fail))
    refine (jX u1).mono ?_
    rintro e u2 ⟨rfl,hb2⟩
    have HU2:=kp (HU1.out.trans (hb2.mono hz1))
    have hs2:=HU2.out.size
    have HKp:=kp (HK1.out.below hb2 hl1)
    have hlp:=HKp.out.lt
    clear hb2
    obtain ⟨hc0,hc1',hc2,hc3⟩:=jE HKp.out
    go_wp2_with (go_at_call 9;fail)
    refine (qU w.heap.size pg0 u2 (HP.out.below HU2.out) hs2 _ HR.out).mono ?_
    rintro e u3 ⟨rfl,hb3⟩
    have HU3:=kp (HU2.out.trans (hb3.mono hs2))
    have hs3:=HU3.out.size
    have HKp:=kp (HKp.out.below hb3 hlp)
    have hlp:=HKp.out.lt
    clear hb3 hc0 hc1' hc2 hc3
    cases r
    · go_wp2_with (go_at_call 8;fail)
      refine (jX u3).mono ?_
      rintro e u4 ⟨rfl,hb4⟩
      have HU4:=kp (HU3.out.trans (hb4.mono hs3))
      clear hb4
      go_wp2
      go_ret
      exact ⟨rfl,HU4.out⟩
    · go_wp2_with (go_at_call 8;fail)
      refine (jX u3).mono ?_
      rintro e u4 ⟨rfl,hb4⟩
      have HU4:=kp (HU3.out.trans (hb4.mono hs3))
      clear hb4
      go_wp2
      go_ret
      exact ⟨rfl,HU4.out⟩
  · go_enter Try.func5,Try.ntmps5
    go_wp2_with (first
      | ((with_reducible refine j2 rfl 24 (.tmp 0) rfl (pgC pg0) rfl ?_);intro g1 u1 hg1 hk1 hu1;have HK1:=kp hk1;have HU1:=kp hu1;have hz1:=hu1.size;have hl1:=hk1.lt;clear hg1 hk1 hu1)
      | (go_at_call 8;fail))
    refine (jX u1).mono ?_
    rintro e u2 ⟨rfl,hb2⟩
    have HU2:=kp (HU1.out.trans (hb2.mono hz1))
    have hs2:=HU2.out.size
    have HKp:=kp (HK1.out.below hb2 hl1)
    have hlp:=HKp.out.lt
    clear hb2
    obtain ⟨hc0,hc1',hc2,hc3⟩:=jE HKp.out
    go_wp2_with (go_at_call 9;fail)
    refine (qU w.heap.size pg0 u2 (HP.out.below HU2.out) hs2 _ HR.out).mono ?_
    rintro e u3 ⟨rfl,hb3⟩
    have HU3:=kp (HU2.out.trans (hb3.mono hs2))
    have hs3:=HU3.out.size
    have HKp:=kp (HKp.out.below hb3 hlp)
    have hlp:=HKp.out.lt
    clear hb3 hc0 hc1' hc2 hc3
    cases r
    · go_wp2_with (go_at_call 8;fail)
      refine (jX u3).mono ?_
      rintro e u4 ⟨rfl,hb4⟩
      have HU4:=kp (HU3.out.trans (hb4.mono hs3))
      clear hb4
      go_wp2
      go_ret
      exact ⟨rfl,HU4.out⟩
    · obtain ⟨hc0,hc1',hc2,hc3⟩:=jE HKp.out
      go_wp2_with (go_at_call 10;fail)
      refine (xZ w.heap.size pg0 (a1 % 1000) (by omega) u3 (HP.out.below HU3.out) hs3 ca cb cc HC.out).mono ?_
      unfold FindPost
      rintro e u4 ⟨L4,n4,c4,l4,is4,rfl,ho4,hn4,hout4,hno4,hb4⟩
      have HO4:=kp (ho4.less hs3);have HOut4:=kp hout4;have HNo4:=kp hno4;have HU4:=kp (HU3.out.trans (hb4.mono hs3))
      have hs4:=HU4.out.size
      have HKp:=kp (HKp.out.below hb4 hlp)
      have hlp:=HKp.out.lt
      clear ho4 hout4 hno4 hb4 hc0 hc1' hc2 hc3
      by_cases hz : cc = 0
      rotate_left
      · have hb0 : ((cc : Int) != 0) = true:=by simpa using hz
        go_wp2
        go_ret
        exact ⟨rfl,HU4.out⟩
      have HCz : Kept ((cc : Int) = 0):=kp (by omega)
      have hb0 : ((cc : Int) != 0) = false:=by rw [HCz.out];rfl
      have HO:=kp (HOut4.out hz)
      have HF : Kept (Fine pg0):=kp (qZ (by rw [HC.out,hz]))
      have HL : Kept (pg0.fns.length = pg0.len):=kp HP.out.row.len
      have hn4 : l4.length = n4:=HO4.out.1
      have HPk : Kept (Picks u4 w.heap.size a2 len2 z2):=kp (HPi.out.below HU4.out)
      obtain ⟨hc0,hc1',hc2,hc3⟩:=jE HKp.out
      go_wp2_with (go_at_call 14;fail)
      refine (XE w.heap.size pg0 a2 len2 cap2 z2 u4 (HP.out.below HU4.out) HPk.out (by omega) hs4 ca cb cc HC.out).mono ?_
      unfold MeetsPost
      rintro e u5 ⟨k,b,rfl,hme,hb5⟩
      have HMe:=kp (hme.2 hz)
      have HU5:=kp (HU4.out.trans (hb5.mono hs4))
      clear hb5 hme hc0 hc1' hc2 hc3
      rcases K.out_is HO.out with rfl | rfl | rfl
      · go_wp2
        go_ret
        exact ⟨rfl,HU5.out⟩
      · cases b with
        | false =>
          go_wp2
          go_ret
          exact ⟨rfl,HU5.out⟩
        | true =>
          have hge : n4 ≤ k:=by
            rcases HMe.out with ⟨_,_,h2,_⟩ | ⟨h,_⟩
            · have:=K.out_short HO.out z2 k h2;omega
            · cases h
          go_wp2
          go_ret
          exact ⟨rfl,HU5.out⟩
      · have hbf : b = false:=by
          rcases HMe.out with ⟨_,_,h2,_⟩ | ⟨h,_⟩
          · exact absurd h2 (K.out_none HO.out z2 k)
          · exact h
        subst hbf
        go_wp2
        go_ret
        exact ⟨rfl,HU5.out⟩
end Go.Proofs.Ytnaomfmmkhgbhaa
namespace Go.Proofs.Ytnaomfmmkhgbhaa
open Go.ChangeShapes Go.WideShapes Go.RowKit Go.Deep
section
variable {H : Type} {enc : TypeId × Value → H} {P : Program} {w : World} {base : Nat} {held : Bool}
theorem cell_boolP {t : TypeId} {v : Value} {fuel : Nat} {y : DataW H × List MemPlace} (ht : P.underlying t = some .bool) (h : DataW.trod enc P w base (fun _ => true) held fuel t [v] = some y) : ∃ b : Bool,v = .bool b:=by
  obtain ⟨b,hn,_⟩:=DataW.trod_bool ht h
  simp at hn
  exact ⟨b,hn⟩
theorem X9 {t e : TypeId} {f0 f1 : Field} {a : Option Addr} {len cap : Nat} {d : DataW H} {ps : List MemPlace} (ht : P.underlying t = some (.slice e)) (he : P.underlying e = some (.struct #[f0,f1]))
    (hone : oneCellFields P #[f0,f1] = true) (hC : P.cellsOf e = 2) (h0 : P.underlying f0.type = some (.int .i64)) (h1 : P.underlying f1.type = some .bool)
    (h : DataW.Trod enc P w base (fun _ => true) held t (.slice a len cap) d ps) : ∃ l : List (Int × Bool),Picks w w.heap.size a len l ∧ len ≤ cap ∧ cap ≤ maxLen:=by
  obtain ⟨hl,hm,hnil,hsome,hall⟩:=LX (a:=a) (len:=len) (cap:=cap) ht he hone hC h
  rcases Nat.eq_zero_or_pos len with h00 | h00
  · exact ⟨[],⟨⟨h00.symm ▸ rfl,fun h => absurd (show 0 < len from h) (by omega)⟩,by simp⟩,hl,hm⟩
  · obtain ⟨ad,rfl⟩:=hsome h00
    obtain ⟨V,hV⟩:=hall ad rfl
    have each : ∀ i,i < len → ∃ x : Int × Bool,I64 x.1 ∧ ∀ j,j < 2 → w.cell? (ad.add (i * 2 + j)) = some (pkV x j):=by
      intro i hi
      obtain ⟨c0,_,_,g0⟩:=hV i hi 0 f0 rfl
      obtain ⟨c1,_,_,g1⟩:=hV i hi 1 f1 rfl
      obtain ⟨n0,e0,w0⟩:=xD h0 g0
      obtain ⟨b1,e1⟩:=cell_boolP h1 g1
      refine ⟨⟨n0,b1⟩,qK w0,fun j hj => ?_⟩
      match j,hj with
      | 0,_ => rw [show pkV _ 0 = Value.int .i64 n0 from rfl,← e0];exact c0
      | 1,_ => rw [show pkV _ 1 = Value.bool b1 from rfl,← e1];exact c1
    obtain ⟨X,hX⟩:=choose_lt each
    refine ⟨(List.range len).map X,⟨⟨by simp,fun _ => ⟨ad,rfl,?_,fun k x hx j hj => ?_⟩⟩,fun x hx => ?_⟩,hl,hm⟩
    · have:=xU ((hX 0 h00).2 0 (by omega))
      rwa [add_block] at this
    · have hk : k < len:=by have:=(List.getElem?_eq_some_iff.1 hx).1;simpa using this
      rw [List.getElem?_map,List.getElem?_range hk] at hx
      cases hx
      exact (hX k hk).2 j hj
    · obtain ⟨i,hi,rfl⟩:=List.mem_map.1 hx
      exact (hX i (List.mem_range.1 hi)).1
end
end Go.Proofs.Ytnaomfmmkhgbhaa
