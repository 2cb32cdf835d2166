/- Whom functions come to by calls, as the program makes it, walked: comesTo. -/
import Derived.Test.YtoekiejipdabmaaDoorProgP3a
import Derived.Test.YtoekiejipdabmaaDoorProgRef5
import Derived.Test.YtoekiejipdabmaaDoorPk1
import Derived.BigQuiet
import Derived.Test.YtoekiejipdabmaaDoorPk3
namespace Go.Proofs.YtoekiejipdabmaaDoor
open Go.RowKit
set_option maxRecDepth 1000000 in
set_option maxHeartbeats 8000000 in
theorem JE (B : Nat) (p : Pg) (w : World) (hp : p.Ok w B) (hB : B ≤ w.heap.size) (hfit : Q.CallsFit p) (h16 : p.len ≤ 16) :
    Calls Tryd.prog 67 #[pgA p] w fun e w' => ∃ L : List Bool,e = .returned (.agg (relC L).toArray) ∧ L.length = 256 ∧ (∀ x y,x < 16 → y < 16 → (Q.ent L x y ↔ Q.Reach (Q.calls p) 16 x y)) ∧ Below w.heap.size w w':=by
  have HP:=kp hp;have HFit:=kp hfit
  have hlen:=hp.row.len
  have HLen:=kp hlen
  have hlc:=hp.lc;have hcm:=hp.cm
  unfold maxLen at hcm
  have hcm9 : p.cap ≤ 9223372036854775807:=by omega
  clear hp hfit hlen hcm
  rw [jM]
  go_enter Tryd.func67,Tryd.ntmps67
  go_wp2_with (first
    | ((with_reducible refine j4 rfl 24 (.tmp 0) rfl (pgC p) rfl ?_);intro g1 w1 hg1 hk1 hw1;have HK1:=kp hk1;have HW1:=kp hw1;have hs1:=hw1.size;clear hg1 hk1 hw1)
    | ((with_reducible show Sl 2);go_must (refine j7 rfl 123 rfl (relC (List.replicate 256 false)) uC ?_);intro g2 w2 hg2 hk2 hw2;have HG2 : Kept (w.heap.size ≤ g2):=kp (Nat.le_trans hs1 hg2);have HK2:=kp hk2;have HKp2:=kp (HK1.out.below hw2 HK1.out.lt);have HW2:=kp (HW1.out.trans (hw2.mono hs1));have hs2:=HW2.out.size;clear hg2 hk2 hw2)
    | ((with_reducible show Sl 3);go_must (refine j7 rfl 123 rfl (relC (List.replicate 256 false)) uC ?_);intro g3 w3 hg3 hk3 hw3;have HG3:=kp hg3;have HK3:=kp hk3;have HB3:=kp hw3;obtain ⟨hc0,hc1,hc2,hc3⟩:=j8 (HKp2.out.below hw3 HKp2.out.lt);clear hg3 hk3 hw3))
  have HP2:=kp (HP.out.below (HW2.out.mono hB))
  have hB2 : B ≤ w2.heap.size:=by omega
  clear hc0 hc1 hc2 hc3
  go_loopw [14] (fun v14 wr => ∃ (f : Nat) (L : List Bool),f ≤ p.len ∧ v14 = .int .i64 f ∧ L.length = 256 ∧ (∀ x y,x < 16 → y < 16 → (Q.ent L x y ↔ x < f ∧ Q.calls p x y)) ∧ Blk wr g3 123 (relC L) ∧ Below w2.heap.size w2 wr) (fun v14 _ => p.len - (intOf v14).toNat)
  case atStart => exact ⟨0,List.replicate 256 false,by omega,rfl,List.length_replicate,fun x y _ _ => ⟨fun h => absurd h (Q.ent_zero x y),fun h => by omega⟩,HK3.out,HB3.out⟩
  case round =>
    obtain ⟨f,L,hf,rfl,hL,hent,hk,hbl⟩:=hrel
    have HEnt:=kp hent;have HK:=kp hk;have HBL:=kp hbl
    have hszr:=hbl.size
    have HPr:=kp (HP2.out.below (hbl.mono hB2))
    clear hent hk hbl
    by_cases hlt : f < p.len
    · obtain ⟨ad,fn,e1,hab,hx,hok,hcf⟩:=HPr.out.fn hlt
      rw [e1]
      have HE1:=kp e1
      have hfc:=hok.lc;have hfm:=hok.cm
      unfold maxLen at hfm
      have hfm9 : fn.cap ≤ 9223372036854775807:=by omega
      have HX:=kp hx
      have hfl:=hok.nodes.1.len
      have HFl:=kp hfl
      have HFitF : Kept (∀ nd ∈ fn.nodes,nd.kind = 7 → 0 ≤ nd.arg ∧ nd.arg < p.len):=kp (HFit.out fn (List.mem_of_getElem? hx))
      clear hx hok hfm hfl e1
      go_wp2
      clear hcf
      go_loopw [21] (fun v21 wq => ∃ (i : Nat) (L : List Bool),i ≤ fn.len ∧ v21 = .int .i64 i ∧ L.length = 256 ∧ (∀ x y,x < 16 → y < 16 → (Q.ent L x y ↔ (x < f ∧ Q.calls p x y) ∨ (x = f ∧ Q.callsTo (fn.nodes.take i) y))) ∧ Blk wq g3 123 (relC L) ∧ Below w2.heap.size w2 wq) (fun v21 _ => fn.len - (intOf v21).toNat)
      case atStart => exact ⟨0,L,by omega,rfl,hL,fun x y hx hy => by rw [HEnt.out x y hx hy];simp [Q.callsTo],HK.out,HBL.out⟩
      case round =>
        clear HK HBL HEnt hL hszr
        obtain ⟨i,L,hi,rfl,hL,hent,hk,hbq⟩:=hrel
        have HEnt:=kp hent;have HK:=kp hk;have HBq:=kp hbq
        have hszq:=hbq.size
        have HPq:=kp (HP2.out.below (hbq.mono hB2))
        obtain ⟨ad',fn',e1',_,hx',hok,_⟩:=HPq.out.fn hlt
        rw [HE1.out] at e1'
        cases e1'
        rw [HX.out] at hx'
        cases hx'
        clear hent hk hbq
        by_cases hli : i < fn.len
        · obtain ⟨bd,x,e3,hbb,hy,hxok,hn0,hn1,hn2,hn3⟩:=hok.nodes.get hli
          rw [e3]
          have HE3:=kp e3
          have HSn:=kp (zP fn.nodes i x hy)
          have HY:=kp hy
          clear e3 hy hxok hok
          by_cases h7 : x.kind = 7
          · have hz : (x.kind == 7) = true:=by simpa using h7
            obtain ⟨ha0,han⟩:=HFitF.out x (List.mem_of_getElem? HY.out) h7
            obtain ⟨k,hk⟩ : ∃ k : Nat,x.arg = (k : Int):=⟨x.arg.toNat,by omega⟩
            have hk16 : k < 16:=by omega
            have hf16 : f < 16:=by omega
            have hfi : (f : Int) < (16 : Int):=by omega
            have hki : (k : Int) < (16 : Int):=by omega
            have hf0 : (0 : Int) ≤ (f : Int):=by omega
            have hk0 : (0 : Int) ≤ (k : Int):=by omega
            have HKx:=kp hk
            have H7:=kp h7
            clear ha0 han hk h7
            go_wp2_with (first
              | ((with_reducible show Sl 7);go_must (refine j7 rfl 66 rfl (ndC ⟨0,0,0,0⟩) jU ?_);intro g5 w6 hg5 hk6 hw6;have HG5:=kp hg5;have HK6:=kp hk6;have HW6:=kp hw6;clear hg5 hk6 hw6)
              | ((with_reducible show Sn);go_must (refine j5 rfl 66 (.tmp 7) (.tmp 24) rfl g5 (ndC x) rfl rfl _ _ HK6.out jD rfl (jK x) ?_);intro w7 hk7 hg7 hs7
                 obtain ⟨hx0,hx1,hx2,hx3⟩:=jB hk7
                 have HBq7:=kp (HW6.out.grown hg7 HW6.out.size (fun k hk => by cases hk;exact HG5.out))
                 have HB7:=kp (HBq.out.trans (HBq7.out.mono hszq))
                 have HK7:=kp (HK.out.below HBq7.out HK.out.lt)
                 clear hk7 hg7 hs7 hn0 hn1 hn2 hn3))
            rw [HKx.out] at hx1
            go_still_tail 5,(by kernel_rfl)
            change wpList _ _ _ _ _ (w7.drewN 1)
            obtain ⟨w8,hw8⟩ : ∃ w8,w7.drewN 1 = w8:=⟨_,rfl⟩
            have HK8 : Kept (Blk w8 g3 123 (relC L)):=kp (by rw [← hw8];exact HK7.out.drewN 1)
            have HB8 : Kept (Below w2.heap.size w2 w8):=kp (by rw [← hw8];exact below_drewN HB7.out 1)
            rw [hw8]
            clear hw8
            obtain ⟨v,hv,_⟩:=Q.ent_at hL hf16 hk16
            have hcv:=(HK8.out.cell (f * 16 + k)).trans (lR hv)
            have hfv:=HK8.out.frozen (f * 16 + k)
            have HHv:=kp hv
            clear hv hx0 hx1 hx2 hx3
            go_wp2
            go_roundw
            case rel => exact ⟨i + 1,L.set (f * 16 + k) true,by omega,by go_num,by rw [List.length_set];exact hL,fun x' y' hx' hy' => by
              rw [Q.ent_set hL hf16 hk16 true x' y' hx' hy',HSn.out y',HEnt.out x' y' hx' hy',HKx.out]
              have h7:=H7.out
              by_cases e : x' = f ∧ y' = k
              · rw [if_pos e]
                obtain ⟨e1,e2⟩:=e
                exact ⟨fun _ => .inr ⟨e1,.inr ⟨h7,by omega⟩⟩,fun _ => rfl⟩
              · rw [if_neg e]
                constructor
                · rintro (h | ⟨h,h'⟩)
                  · exact .inl h
                  · exact .inr ⟨h,.inl h'⟩
                · rintro (h | ⟨h,h' | ⟨_,h'⟩⟩)
                  · exact .inl h
                  · exact .inr ⟨h,h'⟩
                  · exact absurd ⟨h,by omega⟩ e,by rw [← zE];exact HK8.out.set (f * 16 + k) (.bool true),HB8.out.setCell HG3.out _⟩
            case measure => simp [intOf];omega
          · have hz : (x.kind == 7) = false:=by simpa using h7
            have HN : Kept (∀ y,Q.callsTo (fn.nodes.take (i + 1)) y ↔ Q.callsTo (fn.nodes.take i) y):=kp fun y => by
              rw [HSn.out y]
              simp [h7]
            go_wp2_with (first
              | ((with_reducible show Sl 7);go_must (refine j7 rfl 66 rfl (ndC ⟨0,0,0,0⟩) jU ?_);intro g5 w6 hg5 hk6 hw6;have HG5:=kp hg5;have HK6:=kp hk6;have HW6:=kp hw6;clear hg5 hk6 hw6)
              | ((with_reducible show Sn);go_must (refine j5 rfl 66 (.tmp 7) (.tmp 24) rfl g5 (ndC x) rfl rfl _ _ HK6.out jD rfl (jK x) ?_);intro w7 hk7 hg7 hs7
                 obtain ⟨hx0,hx1,hx2,hx3⟩:=jB hk7
                 have HBq7:=kp (HW6.out.grown hg7 HW6.out.size (fun k hk => by cases hk;exact HG5.out))
                 have HB7:=kp (HBq.out.trans (HBq7.out.mono hszq))
                 have HK7:=kp (HK.out.below HBq7.out HK.out.lt)
                 clear hk7 hg7 hs7 hn0 hn1 hn2 hn3))
            go_roundw
            case rel => exact ⟨i + 1,L,by omega,by go_num,hL,fun x y hx hy => by rw [HN.out y];exact HEnt.out x y hx hy,HK7.out,HB7.out⟩
            case measure => simp [intOf];omega
        · have hgel : fn.len ≤ i:=by omega
          have hfa : fn.nodes.take i = fn.nodes:=List.take_of_length_le (by rw [HFl.out];omega)
          have HNx : Kept (∀ x y,x < 16 → y < 16 → (Q.ent L x y ↔ x < f + 1 ∧ Q.calls p x y)):=kp fun x y hx hy => by
            rw [HEnt.out x y hx hy,hfa,calls_at HX.out]
            constructor
            · rintro (⟨h1,h2⟩ | ⟨h1,h2⟩)
              · exact ⟨by omega,h2⟩
              · subst h1;exact ⟨by omega,h2⟩
            · rintro ⟨h1,h2⟩
              by_cases e : x = f
              · subst e;exact .inr ⟨rfl,h2⟩
              · exact .inl ⟨by omega,h2⟩
          clear hli hok hfa
          go_wp2
          go_roundw
          case rel => exact ⟨f + 1,L,by omega,by go_num,hL,HNx.out,HK.out,HBq.out⟩
          case measure => simp [intOf];omega
    · have hge : p.len ≤ f:=by omega
      have HClo : Kept (Q.Clo (Q.calls p) 16 0 0 0 (Q.ent L)):=kp (Q.Clo.start fun x y hx hy => by
        rw [HEnt.out x y hx hy]
        constructor
        · exact fun h => h.2
        · rintro ⟨fn,h1,h2⟩
          have:=(List.getElem?_eq_some_iff.1 h1).1
          rw [HLen.out] at this
          exact ⟨by omega,fn,h1,h2⟩)
      clear hlt HEnt HPr hszr
      go_wp2
      go_loopw [35] (fun v35 wq => ∃ (k : Nat) (L : List Bool),k ≤ 16 ∧ v35 = .int .i64 k ∧ L.length = 256 ∧ Q.Clo (Q.calls p) 16 k 0 0 (Q.ent L) ∧ Blk wq g3 123 (relC L) ∧ Below w2.heap.size w2 wq) (fun v35 _ => 16 - (intOf v35).toNat)
      case atStart => exact ⟨0,L,by omega,rfl,hL,HClo.out,HK.out,HBL.out⟩
      case round =>
        clear HClo HK HBL hL
        obtain ⟨k,L1,hk,rfl,hL,hclo,hkb,hbl⟩:=hrel
        have HClo:=kp hclo;have HK:=kp hkb;have HBL:=kp hbl
        clear hclo hkb hbl
        by_cases hk16 : k < 16
        · go_wp2
          go_loopw [38] (fun v38 wq => ∃ (a : Nat) (L : List Bool),a ≤ 16 ∧ v38 = .int .i64 a ∧ L.length = 256 ∧ Q.Clo (Q.calls p) 16 k a 0 (Q.ent L) ∧ Blk wq g3 123 (relC L) ∧ Below w2.heap.size w2 wq) (fun v38 _ => 16 - (intOf v38).toNat)
          case atStart => exact ⟨0,L1,by omega,rfl,hL,HClo.out,HK.out,HBL.out⟩
          case round =>
            clear HClo HK HBL hL
            obtain ⟨a,L2,ha,rfl,hL,hclo,hkb,hbl⟩:=hrel
            have HClo:=kp hclo;have HK:=kp hkb;have HBL:=kp hbl
            clear hclo hkb hbl
            by_cases ha16 : a < 16
            · go_wp2
              apply Y5 (Q.calls p) w2.heap.size g3 k a hk16 ha16 L2 hL w2 wr HClo.out HK.out HG3.out HBL.out
              intro x10 x41 x42 x43 x44 x45 x46 x47 x48 x49 x50 x51 x52 x53 x54 x55 x56 x57 x58 x59 x60 x61 x62 x63 x64 x65 x66 x67 W L9 hL9 hclo9 hk9 hb9
              have HClo9:=kp hclo9;have HK9:=kp hk9;have HB9:=kp hb9
              clear hclo9 hk9 hb9
              go_wp2
              go_roundw
              case rel => exact ⟨a + 1,L9,by omega,by go_num,hL9,HClo9.out,HK9.out,HB9.out⟩
              case measure => simp [intOf];omega
            · have hae : a = 16:=by omega
              have HClo2 : Kept (Q.Clo (Q.calls p) 16 (k + 1) 0 0 (Q.ent L2)):=kp (by have h:=HClo.out;rw [hae] at h;exact h.round)
              have hge : 16 ≤ a:=by omega
              clear ha16 hae
              go_wp2
              go_roundw
              case rel => exact ⟨k + 1,L2,by omega,by go_num,hL,HClo2.out,HK.out,HBL.out⟩
              case measure => simp [intOf];omega
        · have hke : k = 16:=by omega
          have HEnd : Kept (∀ x y,x < 16 → y < 16 → (Q.ent L1 x y ↔ Q.Reach (Q.calls p) 16 x y)):=kp (by have h:=HClo.out;rw [hke] at h;exact h.end_)
          have hge : 16 ≤ k:=by omega
          have HKr:=kp (HK2.out.below HBL.out HK2.out.lt)
          clear hk16 hke HClo
          go_wp2_with (first
            | ((with_reducible show Sl 70);go_must (refine j6 rfl 123 (.tmp 3) rfl g3 rfl _ (relC L1) _ HK.out Tryd.underlying123 rfl (by rw [qH,hL];exact zD) ?_))
            | ((with_reducible show Sn);go_must (refine j5 rfl 123 (.tmp 2) (.tmp 70) rfl g2 (relC L1) rfl rfl _ _ HKr.out (by rw [qH,hL];exact zD) (by rw [qH,qH,hL,List.length_replicate]) (L7 L1) ?_);intro w9 hk9 hg9 _;have HK9:=kp hk9;have HB9:=kp ((HW2.out.trans (HBL.out.mono hs2)).grown hg9 (Nat.le_trans hs2 HBL.out.size) (fun k hk => by cases hk;exact HG2.out));clear hk9 hg9))
          refine bodyPost_ret (jZ (P:=Tryd.prog) (fn:=Tryd.f67) rfl _ _ g2 123 (relC L1) _ rfl HK9.out Tryd.underlying123 rfl (by rw [qH,hL];exact zD)) rfl (ret_rel hL HEnd.out HB9.out)
end Go.Proofs.YtoekiejipdabmaaDoor
