/- ProgP3, ProgP0, ProgP1, ProgP4, ProgP5. -/
import Derived.Test.YtnaomfmmkhgbhaaProgP3a
import Derived.Test.YtnaomfmmkhgbhaaProgRef5
import Derived.Test.YtnaomfmmkhgbhaaPk1
import Derived.BigQuiet
import Derived.Test.YtnaomfmmkhgbhaaPk3
import Derived.Test.YtnaomfmmkhgbhaaPk2
import Derived.Sort.AtCall
import Derived.Laws.Cover1
namespace Go.Proofs.Ytnaomfmmkhgbhaa
open Go.RowKit
set_option maxRecDepth 1000000 in
set_option maxHeartbeats 8000000 in
theorem QO (B : Nat) (p : Pg) (w : World) (hp : p.Ok w B) (hB : B ≤ w.heap.size) (hfit : Q.CallsFit p) (h16 : p.len ≤ 16) :
    Calls Try.prog 77 #[pgA p] w fun e w' => ∃ L : List Bool,e = .returned (.agg (relC L).toArray) ∧ L.length = 256 ∧ (∀ x y,x < 16 → y < 16 → (Q.ent L x y ↔ Q.Reach (Q.calls p) 16 x y)) ∧ Below w.heap.size w w':=by
  have HP:=kp hp;have HFit:=kp hfit
  have hlen:=hp.row.len
  have HLen:=kp hlen
  have hlc:=hp.lc;have hcm:=hp.cm
  unfold maxLen at hcm
  have hcm9 : p.cap ≤ 9223372036854775807:=by omega
  clear hp hfit hlen hcm
  rw [jI]
  go_enter Try.func77,Try.ntmps77
  go_wp2_with (first
    | ((with_reducible refine j2 rfl 24 (.tmp 0) rfl (pgC p) rfl ?_);intro g1 w1 hg1 hk1 hw1;have HK1:=kp hk1;have HW1:=kp hw1;have hs1:=hw1.size;clear hg1 hk1 hw1)
    | ((with_reducible show Sl 2);go_must (refine j3 rfl 149 rfl (relC (List.replicate 256 false)) JO ?_);intro g2 w2 hg2 hk2 hw2;have HG2 : Kept (w.heap.size ≤ g2):=kp (Nat.le_trans hs1 hg2);have HK2:=kp hk2;have HKp2:=kp (HK1.out.below hw2 HK1.out.lt);have HW2:=kp (HW1.out.trans (hw2.mono hs1));have hs2:=HW2.out.size;clear hg2 hk2 hw2)
    | ((with_reducible show Sl 3);go_must (refine j3 rfl 149 rfl (relC (List.replicate 256 false)) JO ?_);intro g3 w3 hg3 hk3 hw3;have HG3:=kp hg3;have HK3:=kp hk3;have HB3:=kp hw3;obtain ⟨hc0,hc1,hc2,hc3⟩:=jE (HKp2.out.below hw3 HKp2.out.lt);clear hg3 hk3 hw3))
  have HP2:=kp (HP.out.below (HW2.out.mono hB))
  have hB2 : B ≤ w2.heap.size:=by omega
  clear hc0 hc1 hc2 hc3
  go_loopw [14] (fun v14 wr => ∃ (f : Nat) (L : List Bool),f ≤ p.len ∧ v14 = .int .i64 f ∧ L.length = 256 ∧ (∀ x y,x < 16 → y < 16 → (Q.ent L x y ↔ x < f ∧ Q.calls p x y)) ∧ Blk wr g3 149 (relC L) ∧ Below w2.heap.size w2 wr) (fun v14 _ => p.len - (intOf v14).toNat)
  case atStart => exact ⟨0,List.replicate 256 false,by omega,rfl,List.length_replicate,fun x y _ _ => ⟨fun h => absurd h (Q.ent_zero x y),fun h => by omega⟩,HK3.out,HB3.out⟩
  case round =>
    obtain ⟨f,L,hf,rfl,hL,hent,hk,hbl⟩:=hrel
    have HEnt:=kp hent;have HK:=kp hk;have HBL:=kp hbl
    have hszr:=hbl.size
    have HPr:=kp (HP2.out.below (hbl.mono hB2))
    clear hent hk hbl
    by_cases hlt : f < p.len
    · obtain ⟨ad,fn,e1,hab,hx,hok,hcf⟩:=HPr.out.fn hlt
      rw [e1]
      have HE1:=kp e1
      have hfc:=hok.lc;have hfm:=hok.cm
      unfold maxLen at hfm
      have hfm9 : fn.cap ≤ 9223372036854775807:=by omega
      have HX:=kp hx
      have hfl:=hok.nodes.1.len
      have HFl:=kp hfl
      have HFitF : Kept (∀ nd ∈ fn.nodes,nd.kind = 7 → 0 ≤ nd.arg ∧ nd.arg < p.len):=kp (HFit.out fn (List.mem_of_getElem? hx))
      clear hx hok hfm hfl e1
      go_wp2
      clear hcf
      go_loopw [21] (fun v21 wq => ∃ (i : Nat) (L : List Bool),i ≤ fn.len ∧ v21 = .int .i64 i ∧ L.length = 256 ∧ (∀ x y,x < 16 → y < 16 → (Q.ent L x y ↔ (x < f ∧ Q.calls p x y) ∨ (x = f ∧ Q.callsTo (fn.nodes.take i) y))) ∧ Blk wq g3 149 (relC L) ∧ Below w2.heap.size w2 wq) (fun v21 _ => fn.len - (intOf v21).toNat)
      case atStart => exact ⟨0,L,by omega,rfl,hL,fun x y hx hy => by rw [HEnt.out x y hx hy];simp [Q.callsTo],HK.out,HBL.out⟩
      case round =>
        clear HK HBL HEnt hL hszr
        obtain ⟨i,L,hi,rfl,hL,hent,hk,hbq⟩:=hrel
        have HEnt:=kp hent;have HK:=kp hk;have HBq:=kp hbq
        have hszq:=hbq.size
        have HPq:=kp (HP2.out.below (hbq.mono hB2))
        obtain ⟨ad',fn',e1',_,hx',hok,_⟩:=HPq.out.fn hlt
        rw [HE1.out] at e1'
        cases e1'
        rw [HX.out] at hx'
        cases hx'
        clear hent hk hbq
        by_cases hli : i < fn.len
        · obtain ⟨bd,x,e3,hbb,hy,hxok,hn0,hn1,hn2,hn3⟩:=hok.nodes.get hli
          rw [e3]
          have HE3:=kp e3
          have HSn:=kp (uC fn.nodes i x hy)
          have HY:=kp hy
          clear e3 hy hxok hok
          by_cases h7 : x.kind = 7
          · have hz : (x.kind == 7) = true:=by simpa using h7
            obtain ⟨ha0,han⟩:=HFitF.out x (List.mem_of_getElem? HY.out) h7
            obtain ⟨k,hk⟩ : ∃ k : Nat,x.arg = (k : Int):=⟨x.arg.toNat,by omega⟩
            have hk16 : k < 16:=by omega
            have hf16 : f < 16:=by omega
            have hfi : (f : Int) < (16 : Int):=by omega
            have hki : (k : Int) < (16 : Int):=by omega
            have hf0 : (0 : Int) ≤ (f : Int):=by omega
            have hk0 : (0 : Int) ≤ (k : Int):=by omega
            have HKx:=kp hk
            have H7:=kp h7
            clear ha0 han hk h7
            go_wp2_with (first
              | ((with_reducible show Sl 7);go_must (refine j3 rfl 55 rfl (ndC ⟨0,0,0,0⟩) jQ ?_);intro g5 w6 hg5 hk6 hw6;have HG5:=kp hg5;have HK6:=kp hk6;have HW6:=kp hw6;clear hg5 hk6 hw6)
              | ((with_reducible show Sn);go_must (refine j4 rfl 55 (.tmp 7) (.tmp 24) rfl g5 (ndC x) rfl rfl _ _ HK6.out jH rfl (jR x) ?_);intro w7 hk7 hg7 hs7
                 obtain ⟨hx0,hx1,hx2,hx3⟩:=jO hk7
                 have HBq7:=kp (HW6.out.grown hg7 HW6.out.size (fun k hk => by cases hk;exact HG5.out))
                 have HB7:=kp (HBq.out.trans (HBq7.out.mono hszq))
                 have HK7:=kp (HK.out.below HBq7.out HK.out.lt)
                 clear hk7 hg7 hs7 hn0 hn1 hn2 hn3))
            rw [HKx.out] at hx1
            go_still_tail 5,(by kernel_rfl)
            change wpList _ _ _ _ _ (w7.drewN 1)
            obtain ⟨w8,hw8⟩ : ∃ w8,w7.drewN 1 = w8:=⟨_,rfl⟩
            have HK8 : Kept (Blk w8 g3 149 (relC L)):=kp (by rw [← hw8];exact HK7.out.drewN 1)
            have HB8 : Kept (Below w2.heap.size w2 w8):=kp (by rw [← hw8];exact below_drewN HB7.out 1)
            rw [hw8]
            clear hw8
            obtain ⟨v,hv,_⟩:=Q.ent_at hL hf16 hk16
            have hcv:=(HK8.out.cell (f * 16 + k)).trans (qJ hv)
            have hfv:=HK8.out.frozen (f * 16 + k)
            have HHv:=kp hv
            clear hv hx0 hx1 hx2 hx3
            go_wp2
            go_roundw
            case rel => exact ⟨i + 1,L.set (f * 16 + k) true,by omega,by go_num,by rw [List.length_set];exact hL,fun x' y' hx' hy' => by
              rw [Q.ent_set hL hf16 hk16 true x' y' hx' hy',HSn.out y',HEnt.out x' y' hx' hy',HKx.out]
              have h7:=H7.out
              by_cases e : x' = f ∧ y' = k
              · rw [if_pos e]
                obtain ⟨e1,e2⟩:=e
                exact ⟨fun _ => .inr ⟨e1,.inr ⟨h7,by omega⟩⟩,fun _ => rfl⟩
              · rw [if_neg e]
                constructor
                · rintro (h | ⟨h,h'⟩)
                  · exact .inl h
                  · exact .inr ⟨h,.inl h'⟩
                · rintro (h | ⟨h,h' | ⟨_,h'⟩⟩)
                  · exact .inl h
                  · exact .inr ⟨h,h'⟩
                  · exact absurd ⟨h,by omega⟩ e,by rw [← vT];exact HK8.out.set (f * 16 + k) (.bool true),HB8.out.setCell HG3.out _⟩
            case measure => simp [intOf];omega
          · have hz : (x.kind == 7) = false:=by simpa using h7
            have HN : Kept (∀ y,Q.callsTo (fn.nodes.take (i + 1)) y ↔ Q.callsTo (fn.nodes.take i) y):=kp fun y => by
              rw [HSn.out y]
              simp [h7]
            go_wp2_with (first
              | ((with_reducible show Sl 7);go_must (refine j3 rfl 55 rfl (ndC ⟨0,0,0,0⟩) jQ ?_);intro g5 w6 hg5 hk6 hw6;have HG5:=kp hg5;have HK6:=kp hk6;have HW6:=kp hw6;clear hg5 hk6 hw6)
              | ((with_reducible show Sn);go_must (refine j4 rfl 55 (.tmp 7) (.tmp 24) rfl g5 (ndC x) rfl rfl _ _ HK6.out jH rfl (jR x) ?_);intro w7 hk7 hg7 hs7
                 obtain ⟨hx0,hx1,hx2,hx3⟩:=jO hk7
                 have HBq7:=kp (HW6.out.grown hg7 HW6.out.size (fun k hk => by cases hk;exact HG5.out))
                 have HB7:=kp (HBq.out.trans (HBq7.out.mono hszq))
                 have HK7:=kp (HK.out.below HBq7.out HK.out.lt)
                 clear hk7 hg7 hs7 hn0 hn1 hn2 hn3))
            go_roundw
            case rel => exact ⟨i + 1,L,by omega,by go_num,hL,fun x y hx hy => by rw [HN.out y];exact HEnt.out x y hx hy,HK7.out,HB7.out⟩
            case measure => simp [intOf];omega
        · have hgel : fn.len ≤ i:=by omega
          have hfa : fn.nodes.take i = fn.nodes:=List.take_of_length_le (by rw [HFl.out];omega)
          have HNx : Kept (∀ x y,x < 16 → y < 16 → (Q.ent L x y ↔ x < f + 1 ∧ Q.calls p x y)):=kp fun x y hx hy => by
            rw [HEnt.out x y hx hy,hfa,calls_at HX.out]
            constructor
            · rintro (⟨h1,h2⟩ | ⟨h1,h2⟩)
              · exact ⟨by omega,h2⟩
              · subst h1;exact ⟨by omega,h2⟩
            · rintro ⟨h1,h2⟩
              by_cases e : x = f
              · subst e;exact .inr ⟨rfl,h2⟩
              · exact .inl ⟨by omega,h2⟩
          clear hli hok hfa
          go_wp2
          go_roundw
          case rel => exact ⟨f + 1,L,by omega,by go_num,hL,HNx.out,HK.out,HBq.out⟩
          case measure => simp [intOf];omega
    · have hge : p.len ≤ f:=by omega
      have HClo : Kept (Q.Clo (Q.calls p) 16 0 0 0 (Q.ent L)):=kp (Q.Clo.start fun x y hx hy => by
        rw [HEnt.out x y hx hy]
        constructor
        · exact fun h => h.2
        · rintro ⟨fn,h1,h2⟩
          have:=(List.getElem?_eq_some_iff.1 h1).1
          rw [HLen.out] at this
          exact ⟨by omega,fn,h1,h2⟩)
      clear hlt HEnt HPr hszr
      go_wp2
      go_loopw [35] (fun v35 wq => ∃ (k : Nat) (L : List Bool),k ≤ 16 ∧ v35 = .int .i64 k ∧ L.length = 256 ∧ Q.Clo (Q.calls p) 16 k 0 0 (Q.ent L) ∧ Blk wq g3 149 (relC L) ∧ Below w2.heap.size w2 wq) (fun v35 _ => 16 - (intOf v35).toNat)
      case atStart => exact ⟨0,L,by omega,rfl,hL,HClo.out,HK.out,HBL.out⟩
      case round =>
        clear HClo HK HBL hL
        obtain ⟨k,L1,hk,rfl,hL,hclo,hkb,hbl⟩:=hrel
        have HClo:=kp hclo;have HK:=kp hkb;have HBL:=kp hbl
        clear hclo hkb hbl
        by_cases hk16 : k < 16
        · go_wp2
          go_loopw [38] (fun v38 wq => ∃ (a : Nat) (L : List Bool),a ≤ 16 ∧ v38 = .int .i64 a ∧ L.length = 256 ∧ Q.Clo (Q.calls p) 16 k a 0 (Q.ent L) ∧ Blk wq g3 149 (relC L) ∧ Below w2.heap.size w2 wq) (fun v38 _ => 16 - (intOf v38).toNat)
          case atStart => exact ⟨0,L1,by omega,rfl,hL,HClo.out,HK.out,HBL.out⟩
          case round =>
            clear HClo HK HBL hL
            obtain ⟨a,L2,ha,rfl,hL,hclo,hkb,hbl⟩:=hrel
            have HClo:=kp hclo;have HK:=kp hkb;have HBL:=kp hbl
            clear hclo hkb hbl
            by_cases ha16 : a < 16
            · go_wp2
              apply rel_loop5 (Q.calls p) w2.heap.size g3 k a hk16 ha16 L2 hL w2 wr HClo.out HK.out HG3.out HBL.out
              intro x10 x41 x42 x43 x44 x45 x46 x47 x48 x49 x50 x51 x52 x53 x54 x55 x56 x57 x58 x59 x60 x61 x62 x63 x64 x65 x66 x67 W L9 hL9 hclo9 hk9 hb9
              have HClo9:=kp hclo9;have HK9:=kp hk9;have HB9:=kp hb9
              clear hclo9 hk9 hb9
              go_wp2
              go_roundw
              case rel => exact ⟨a + 1,L9,by omega,by go_num,hL9,HClo9.out,HK9.out,HB9.out⟩
              case measure => simp [intOf];omega
            · have hae : a = 16:=by omega
              have HClo2 : Kept (Q.Clo (Q.calls p) 16 (k + 1) 0 0 (Q.ent L2)):=kp (by have h:=HClo.out;rw [hae] at h;exact h.round)
              have hge : 16 ≤ a:=by omega
              clear ha16 hae
              go_wp2
              go_roundw
              case rel => exact ⟨k + 1,L2,by omega,by go_num,hL,HClo2.out,HK.out,HBL.out⟩
              case measure => simp [intOf];omega
        · have hke : k = 16:=by omega
          have HEnd : Kept (∀ x y,x < 16 → y < 16 → (Q.ent L1 x y ↔ Q.Reach (Q.calls p) 16 x y)):=kp (by have h:=HClo.out;rw [hke] at h;exact h.end_)
          have hge : 16 ≤ k:=by omega
          have HKr:=kp (HK2.out.below HBL.out HK2.out.lt)
          clear hk16 hke HClo
          go_wp2_with (first
            | ((with_reducible show Sl 70);go_must (refine j1 rfl 149 (.tmp 3) rfl g3 rfl _ (relC L1) _ HK.out Try.underlying149 rfl (by rw [xB,hL];exact vS) ?_))
            | ((with_reducible show Sn);go_must (refine j4 rfl 149 (.tmp 2) (.tmp 70) rfl g2 (relC L1) rfl rfl _ _ HKr.out (by rw [xB,hL];exact vS) (by rw [xB,xB,hL,List.length_replicate]) (XK L1) ?_);intro w9 hk9 hg9 _;have HK9:=kp hk9;have HB9:=kp ((HW2.out.trans (HBL.out.mono hs2)).grown hg9 (Nat.le_trans hs2 HBL.out.size) (fun k hk => by cases hk;exact HG2.out));clear hk9 hg9))
          refine bodyPost_ret (jK (P:=Try.prog) (fn:=Try.f77) rfl _ _ g2 149 (relC L1) _ rfl HK9.out Try.underlying149 rfl (by rw [xB,hL];exact vS)) rfl (ret_rel hL HEnd.out HB9.out)
def roomQ (g l s f k n : Int) : Int × Int × Int :=
  if k = 0 then (1,n,1)
  else if k = 1 then (g,n,1)
  else if k = 2 then (g,n,1)
  else if k = 3 then (l,n,1)
  else if k = 4 then (l,n,1)
  else if k = 5 then (f,n,s)
  else if k = 6 then (s,n,1)
  else if k = 7 then (f,n,1)
  else if k = 8 then (1,n,n)
  else if k = 9 then (1,1,1)
  else (0,0,0)
theorem room_no (g l s f k n : Int) (h : k < 0 ∨ 9 < k) : roomQ g l s f k n = (0,0,0):=by
  unfold roomQ
  rw [if_neg (by omega),if_neg (by omega),if_neg (by omega),if_neg (by omega),if_neg (by omega),if_neg (by omega),if_neg (by omega),if_neg (by omega),if_neg (by omega),if_neg (by omega)]
theorem lT (q : Nat → Bool) : (List.range 3).all q = (q 0 && (q 1 && (q 2 && true))):=rfl
theorem may_room (g l s f : Int) (x : Nd) (nodes : Int) {a b c : Int} (h : roomQ g l s f x.kind (max nodes 1) = (a,b,c)) :
    Q.may g l s f x nodes = (decide (0 ≤ x.arg ∧ x.arg < a) && (decide (0 ≤ x.next ∧ x.next < b) && decide (0 ≤ x.alt ∧ x.alt < c))):=by
  obtain ⟨k,ar,nx,al⟩:=x
  simp only at h ⊢
  by_cases hk : k < 0 ∨ 9 < k
  · rw [room_no g l s f k _ hk] at h
    cases h
    unfold Q.may
    have e : Q.row k = []:=by unfold Q.row;rw [if_pos hk]
    simp only [e]
    have e2 : decide (0 ≤ ar ∧ ar < 0) = false:=decide_eq_false (by omega)
    rw [e2]
    rfl
  · rcases kinds k (by omega) (by omega) with h0 | h0 | h0 | h0 | h0 | h0 | h0 | h0 | h0 | h0 <;> subst h0
    · cases h
      unfold Q.may
      rw [show Q.row 0 = [45,110,45] from rfl,lT]
      simp [Q.fields,Q.size]
    · cases h
      unfold Q.may
      rw [show Q.row 1 = [103,110,45] from rfl,lT]
      simp [Q.fields,Q.size]
    · cases h
      unfold Q.may
      rw [show Q.row 2 = [103,110,45] from rfl,lT]
      simp [Q.fields,Q.size]
    · cases h
      unfold Q.may
      rw [show Q.row 3 = [108,110,45] from rfl,lT]
      simp [Q.fields,Q.size]
    · cases h
      unfold Q.may
      rw [show Q.row 4 = [108,110,45] from rfl,lT]
      simp [Q.fields,Q.size]
    · cases h
      unfold Q.may
      rw [show Q.row 5 = [102,110,115] from rfl,lT]
      simp [Q.fields,Q.size]
    · cases h
      unfold Q.may
      rw [show Q.row 6 = [115,110,45] from rfl,lT]
      simp [Q.fields,Q.size]
    · cases h
      unfold Q.may
      rw [show Q.row 7 = [102,110,45] from rfl,lT]
      simp [Q.fields,Q.size]
    · cases h
      unfold Q.may
      rw [show Q.row 8 = [45,110,110] from rfl,lT]
      simp [Q.fields,Q.size]
    · cases h
      unfold Q.may
      rw [show Q.row 9 = [45,45,45] from rfl,lT]
      simp [Q.fields,Q.size]
set_option maxRecDepth 100000 in
set_option maxHeartbeats 800000 in
theorem q4 (n c : Int) (r : Bool) (hr : decide (0 ≤ n ∧ n < c) = r) (w : World) :
    Calls Try.prog 81 #[.int .i64 n,.int .i64 c] w fun e w' => e = .returned (.bool r) ∧ Below w.heap.size w w':=by
  have HR:=kp hr
  clear hr
  by_cases h1 : 0 ≤ n
  · have z1 : (n ≥ 0) = True:=by simpa using h1
    by_cases h2 : n < c
    · have HE : Kept (true = r):=kp <| by rw [← HR.out,decide_eq_true ⟨h1,h2⟩]
      go_enter Try.func81,Try.ntmps81
      go_wp2
      go_ret
      exact ⟨jG HE.out,Below.refl _ _⟩
    · have HE : Kept (decide (n < c) = r):=kp <| by rw [← HR.out,decide_eq_false h2,decide_eq_false (by omega)]
      clear h2
      go_enter Try.func81,Try.ntmps81
      go_wp2
      go_ret
      exact ⟨jG HE.out,Below.refl _ _⟩
  · have HE : Kept (false = r):=kp <| by rw [← HR.out,decide_eq_false (by omega)]
    have h3 : n < 0:=by omega
    clear h1
    go_enter Try.func81,Try.ntmps81
    go_wp2
    go_ret
    exact ⟨jG HE.out,Below.refl _ _⟩
theorem qC {a b c a' b' c' : Int} (h : (a,b,c) = (a',b',c')) : Ending.returned (.tuple #[.int .i64 a,.int .i64 b,.int .i64 c]) = Ending.returned (.tuple #[.int .i64 a',.int .i64 b',.int .i64 c']):=by
  injection h with h1 h2
  injection h2 with h2 h3
  rw [h1,h2,h3]
set_option maxRecDepth 100000 in
set_option maxHeartbeats 3200000 in
theorem uI (p : Pg) (k n : Int) (a b c : Int) (hr : roomQ p.g p.l p.s p.len k n = (a,b,c)) (w : World) :
    Calls Try.prog 80 #[pgA p,.int .i64 k,.int .i64 n] w fun e w' => e = .returned (.tuple #[.int .i64 a,.int .i64 b,.int .i64 c]) ∧ Below w.heap.size w w':=by
  rw [jI]
  by_cases hk : k < 0 ∨ 9 < k
  · have HE:=kp ((room_no p.g p.l p.s p.len k n hk).symm.trans hr)
    have z0 : (k == 0) = false:=by simp;omega
    have z1 : (k == 1) = false:=by simp;omega
    have z2 : (k == 2) = false:=by simp;omega
    have z3 : (k == 3) = false:=by simp;omega
    have z4 : (k == 4) = false:=by simp;omega
    have z5 : (k == 5) = false:=by simp;omega
    have z6 : (k == 6) = false:=by simp;omega
    have z7 : (k == 7) = false:=by simp;omega
    have z8 : (k == 8) = false:=by simp;omega
    have z9 : (k == 9) = false:=by simp;omega
    clear hk hr
    go_enter Try.func80,Try.ntmps80
    go_wp2_with ((with_reducible refine j2 rfl 24 (.tmp 0) rfl (pgC p) rfl ?_);intro g1 w1 hg1 hk1 hw1;obtain ⟨hc0,hc1,hc2,hc3⟩:=jE hk1;have HW1:=kp hw1;clear hg1 hk1 hw1)
    go_ret3
    exact ⟨qC HE.out,HW1.out⟩
  · rcases kinds k (by omega) (by omega) with h0 | h0 | h0 | h0 | h0 | h0 | h0 | h0 | h0 | h0 <;> subst h0 <;> clear hk
    · have HE : Kept (((1 : Int),n,(1 : Int)) = (a,b,c)):=kp hr
      clear hr
      go_enter Try.func80,Try.ntmps80
      go_wp2_with ((with_reducible refine j2 rfl 24 (.tmp 0) rfl (pgC p) rfl ?_);intro g1 w1 hg1 hk1 hw1;obtain ⟨hc0,hc1,hc2,hc3⟩:=jE hk1;have HW1:=kp hw1;clear hg1 hk1 hw1)
      go_ret3
      exact ⟨qC HE.out,HW1.out⟩
    · have HE : Kept ((p.g,n,(1 : Int)) = (a,b,c)):=kp hr
      clear hr
      go_enter Try.func80,Try.ntmps80
      go_wp2_with ((with_reducible refine j2 rfl 24 (.tmp 0) rfl (pgC p) rfl ?_);intro g1 w1 hg1 hk1 hw1;obtain ⟨hc0,hc1,hc2,hc3⟩:=jE hk1;have HW1:=kp hw1;clear hg1 hk1 hw1)
      go_ret3
      exact ⟨qC HE.out,HW1.out⟩
    · have HE : Kept ((p.g,n,(1 : Int)) = (a,b,c)):=kp hr
      clear hr
      go_enter Try.func80,Try.ntmps80
      go_wp2_with ((with_reducible refine j2 rfl 24 (.tmp 0) rfl (pgC p) rfl ?_);intro g1 w1 hg1 hk1 hw1;obtain ⟨hc0,hc1,hc2,hc3⟩:=jE hk1;have HW1:=kp hw1;clear hg1 hk1 hw1)
      go_ret3
      exact ⟨qC HE.out,HW1.out⟩
    · have HE : Kept ((p.l,n,(1 : Int)) = (a,b,c)):=kp hr
      clear hr
      go_enter Try.func80,Try.ntmps80
      go_wp2_with ((with_reducible refine j2 rfl 24 (.tmp 0) rfl (pgC p) rfl ?_);intro g1 w1 hg1 hk1 hw1;obtain ⟨hc0,hc1,hc2,hc3⟩:=jE hk1;have HW1:=kp hw1;clear hg1 hk1 hw1)
      go_ret3
      exact ⟨qC HE.out,HW1.out⟩
    · have HE : Kept ((p.l,n,(1 : Int)) = (a,b,c)):=kp hr
      clear hr
      go_enter Try.func80,Try.ntmps80
      go_wp2_with ((with_reducible refine j2 rfl 24 (.tmp 0) rfl (pgC p) rfl ?_);intro g1 w1 hg1 hk1 hw1;obtain ⟨hc0,hc1,hc2,hc3⟩:=jE hk1;have HW1:=kp hw1;clear hg1 hk1 hw1)
      go_ret3
      exact ⟨qC HE.out,HW1.out⟩
    · have HE : Kept (((p.len : Int),n,p.s) = (a,b,c)):=kp hr
      clear hr
      go_enter Try.func80,Try.ntmps80
      go_wp2_with ((with_reducible refine j2 rfl 24 (.tmp 0) rfl (pgC p) rfl ?_);intro g1 w1 hg1 hk1 hw1;obtain ⟨hc0,hc1,hc2,hc3⟩:=jE hk1;have HW1:=kp hw1;clear hg1 hk1 hw1)
      go_quiet (fail)
      go_wp2
      go_ret3
      exact ⟨qC HE.out,below_drewN HW1.out _⟩
    · have HE : Kept ((p.s,n,(1 : Int)) = (a,b,c)):=kp hr
      clear hr
      go_enter Try.func80,Try.ntmps80
      go_wp2_with ((with_reducible refine j2 rfl 24 (.tmp 0) rfl (pgC p) rfl ?_);intro g1 w1 hg1 hk1 hw1;obtain ⟨hc0,hc1,hc2,hc3⟩:=jE hk1;have HW1:=kp hw1;clear hg1 hk1 hw1)
      go_ret3
      exact ⟨qC HE.out,HW1.out⟩
    · have HE : Kept (((p.len : Int),n,(1 : Int)) = (a,b,c)):=kp hr
      clear hr
      go_enter Try.func80,Try.ntmps80
      go_wp2_with ((with_reducible refine j2 rfl 24 (.tmp 0) rfl (pgC p) rfl ?_);intro g1 w1 hg1 hk1 hw1;obtain ⟨hc0,hc1,hc2,hc3⟩:=jE hk1;have HW1:=kp hw1;clear hg1 hk1 hw1)
      go_ret3
      exact ⟨qC HE.out,HW1.out⟩
    · have HE : Kept (((1 : Int),n,n) = (a,b,c)):=kp hr
      clear hr
      go_enter Try.func80,Try.ntmps80
      go_wp2_with ((with_reducible refine j2 rfl 24 (.tmp 0) rfl (pgC p) rfl ?_);intro g1 w1 hg1 hk1 hw1;obtain ⟨hc0,hc1,hc2,hc3⟩:=jE hk1;have HW1:=kp hw1;clear hg1 hk1 hw1)
      go_ret3
      exact ⟨qC HE.out,HW1.out⟩
    · have HE : Kept (((1 : Int),(1 : Int),(1 : Int)) = (a,b,c)):=kp hr
      clear hr
      go_enter Try.func80,Try.ntmps80
      go_wp2_with ((with_reducible refine j2 rfl 24 (.tmp 0) rfl (pgC p) rfl ?_);intro g1 w1 hg1 hk1 hw1;obtain ⟨hc0,hc1,hc2,hc3⟩:=jE hk1;have HW1:=kp hw1;clear hg1 hk1 hw1)
      go_ret3
      exact ⟨qC HE.out,HW1.out⟩
set_option maxRecDepth 100000 in
set_option maxHeartbeats 3200000 in
theorem JV (B : Nat) (p : Pg) (x : Nd) (_hx : x.Ok) (nodes : Int) (hn : I64 nodes) (r : Bool) (hr : Q.may p.g p.l p.s p.len x nodes = r) (w : World) (_hp : p.Ok w B) (_hB : B ≤ w.heap.size) :
    Calls Try.prog 76 #[pgA p,ndA x,.int .i64 nodes] w fun e w' => e = .returned (.bool r) ∧ Below w.heap.size w w':=by
  obtain ⟨a,b,c,habc⟩ : ∃ a b c,roomQ p.g p.l p.s p.len x.kind (max nodes 1) = (a,b,c):=⟨_,_,_,rfl⟩
  have HRoom:=kp habc
  obtain ⟨r1,h1⟩ : ∃ r1,decide (0 ≤ x.arg ∧ x.arg < a) = r1:=⟨_,rfl⟩
  obtain ⟨r2,h2⟩ : ∃ r2,decide (0 ≤ x.next ∧ x.next < b) = r2:=⟨_,rfl⟩
  obtain ⟨r3,h3⟩ : ∃ r3,decide (0 ≤ x.alt ∧ x.alt < c) = r3:=⟨_,rfl⟩
  have HR : Kept ((r1 && (r2 && r3)) = r):=kp <| by rw [← hr,may_room _ _ _ _ _ _ habc,h1,h2,h3]
  have H1:=kp h1;have H2:=kp h2;have H3:=kp h3
  obtain ⟨hn1,hn2⟩:=hn
  clear habc h1 h2 h3 hr
  rw [jI,show ndA x = .agg (ndC x).toArray from rfl]
  cases r1
  case false =>
    go_enter Try.func76,Try.ntmps76
    go_wp2_with (first
      | ((with_reducible refine j2 rfl 24 (.tmp 0) rfl (pgC p) rfl ?_);intro g1 w1 hg1 hk1 hw1;have HK1:=kp hk1;have HW1:=kp hw1;have hs1:=hw1.size;clear hg1 hk1 hw1)
      | ((with_reducible refine j2 rfl 55 (.tmp 1) rfl (ndC x) rfl ?_);intro g2 w2 hg2 hk2 hw2;have HK2:=kp hk2;obtain ⟨hd0,hd1,hd2,hd3⟩:=jO hk2;have HW2:=kp (HW1.out.trans (hw2.mono hs1));have HKp:=kp (HK1.out.below hw2 HK1.out.lt);have hs2:=HW2.out.size;clear hg2 hk2 hw2)
      | ((with_reducible show Sl 11);go_must (refine j1 rfl 24 (.tmp 3) rfl g1 rfl _ (pgC p) _ HKp.out Try.underlying24 rfl jD ?_))
      | (go_at_call 80;go_must (refine (uI p x.kind _ a b c (by first | exact HRoom.out | (rw [← HRoom.out];congr 1;omega)) _).mono ?_);rintro e9 w9 ⟨rfl,hw9⟩;have HK9:=kp (HK2.out.below hw9 HK2.out.lt);clear hd0 hd1 hd2 hd3;obtain ⟨hd0,hd1,hd2,hd3⟩:=jO HK9.out;have HW9:=kp (HW2.out.trans (hw9.mono hs2));have hs9:=HW9.out.size;clear hw9)
      | (go_at_call_of 81 (Value.int IntKind.i64 x.arg);go_must (refine (q4 x.arg a _ H1.out _).mono ?_);rintro e4 w4 ⟨rfl,hw4⟩;have HK4:=kp (HK9.out.below hw4 HK9.out.lt);clear hd0 hd1 hd2 hd3;obtain ⟨hd0,hd1,hd2,hd3⟩:=jO HK4.out;have HW4:=kp (HW9.out.trans (hw4.mono hs9));have hs4:=HW4.out.size;clear hw4)
      | (go_at_call_of 81 (Value.int IntKind.i64 x.next);go_must (refine (q4 x.next b _ H2.out _).mono ?_);rintro e5 w5 ⟨rfl,hw5⟩;have HK5:=kp (HK4.out.below hw5 HK4.out.lt);clear hd0 hd1 hd2 hd3;obtain ⟨hd0,hd1,hd2,hd3⟩:=jO HK5.out;have HW5:=kp (HW4.out.trans (hw5.mono hs4));have hs5:=HW5.out.size;clear hw5)
      | (go_at_call_of 81 (Value.int IntKind.i64 x.alt);go_must (refine (q4 x.alt c _ H3.out _).mono ?_);rintro e6 w6 ⟨rfl,hw6⟩;have HW6:=kp (HW5.out.trans (hw6.mono hs5));clear hw6))
    all_goals go_ret
    all_goals exact ⟨jG HR.out,by first | exact HW6.out | exact HW5.out | exact HW4.out⟩
  case true =>
    cases r2
    case false =>
      go_enter Try.func76,Try.ntmps76
      go_wp2_with (first
        | ((with_reducible refine j2 rfl 24 (.tmp 0) rfl (pgC p) rfl ?_);intro g1 w1 hg1 hk1 hw1;have HK1:=kp hk1;have HW1:=kp hw1;have hs1:=hw1.size;clear hg1 hk1 hw1)
        | ((with_reducible refine j2 rfl 55 (.tmp 1) rfl (ndC x) rfl ?_);intro g2 w2 hg2 hk2 hw2;have HK2:=kp hk2;obtain ⟨hd0,hd1,hd2,hd3⟩:=jO hk2;have HW2:=kp (HW1.out.trans (hw2.mono hs1));have HKp:=kp (HK1.out.below hw2 HK1.out.lt);have hs2:=HW2.out.size;clear hg2 hk2 hw2)
        | ((with_reducible show Sl 11);go_must (refine j1 rfl 24 (.tmp 3) rfl g1 rfl _ (pgC p) _ HKp.out Try.underlying24 rfl jD ?_))
        | (go_at_call 80;go_must (refine (uI p x.kind _ a b c (by first | exact HRoom.out | (rw [← HRoom.out];congr 1;omega)) _).mono ?_);rintro e9 w9 ⟨rfl,hw9⟩;have HK9:=kp (HK2.out.below hw9 HK2.out.lt);clear hd0 hd1 hd2 hd3;obtain ⟨hd0,hd1,hd2,hd3⟩:=jO HK9.out;have HW9:=kp (HW2.out.trans (hw9.mono hs2));have hs9:=HW9.out.size;clear hw9)
        | (go_at_call_of 81 (Value.int IntKind.i64 x.arg);go_must (refine (q4 x.arg a _ H1.out _).mono ?_);rintro e4 w4 ⟨rfl,hw4⟩;have HK4:=kp (HK9.out.below hw4 HK9.out.lt);clear hd0 hd1 hd2 hd3;obtain ⟨hd0,hd1,hd2,hd3⟩:=jO HK4.out;have HW4:=kp (HW9.out.trans (hw4.mono hs9));have hs4:=HW4.out.size;clear hw4)
        | (go_at_call_of 81 (Value.int IntKind.i64 x.next);go_must (refine (q4 x.next b _ H2.out _).mono ?_);rintro e5 w5 ⟨rfl,hw5⟩;have HK5:=kp (HK4.out.below hw5 HK4.out.lt);clear hd0 hd1 hd2 hd3;obtain ⟨hd0,hd1,hd2,hd3⟩:=jO HK5.out;have HW5:=kp (HW4.out.trans (hw5.mono hs4));have hs5:=HW5.out.size;clear hw5)
        | (go_at_call_of 81 (Value.int IntKind.i64 x.alt);go_must (refine (q4 x.alt c _ H3.out _).mono ?_);rintro e6 w6 ⟨rfl,hw6⟩;have HW6:=kp (HW5.out.trans (hw6.mono hs5));clear hw6))
      all_goals go_ret
      all_goals exact ⟨jG HR.out,by first | exact HW6.out | exact HW5.out | exact HW4.out⟩
    case true =>
      go_enter Try.func76,Try.ntmps76
      go_wp2_with (first
        | ((with_reducible refine j2 rfl 24 (.tmp 0) rfl (pgC p) rfl ?_);intro g1 w1 hg1 hk1 hw1;have HK1:=kp hk1;have HW1:=kp hw1;have hs1:=hw1.size;clear hg1 hk1 hw1)
        | ((with_reducible refine j2 rfl 55 (.tmp 1) rfl (ndC x) rfl ?_);intro g2 w2 hg2 hk2 hw2;have HK2:=kp hk2;obtain ⟨hd0,hd1,hd2,hd3⟩:=jO hk2;have HW2:=kp (HW1.out.trans (hw2.mono hs1));have HKp:=kp (HK1.out.below hw2 HK1.out.lt);have hs2:=HW2.out.size;clear hg2 hk2 hw2)
        | ((with_reducible show Sl 11);go_must (refine j1 rfl 24 (.tmp 3) rfl g1 rfl _ (pgC p) _ HKp.out Try.underlying24 rfl jD ?_))
        | (go_at_call 80;go_must (refine (uI p x.kind _ a b c (by first | exact HRoom.out | (rw [← HRoom.out];congr 1;omega)) _).mono ?_);rintro e9 w9 ⟨rfl,hw9⟩;have HK9:=kp (HK2.out.below hw9 HK2.out.lt);clear hd0 hd1 hd2 hd3;obtain ⟨hd0,hd1,hd2,hd3⟩:=jO HK9.out;have HW9:=kp (HW2.out.trans (hw9.mono hs2));have hs9:=HW9.out.size;clear hw9)
        | (go_at_call_of 81 (Value.int IntKind.i64 x.arg);go_must (refine (q4 x.arg a _ H1.out _).mono ?_);rintro e4 w4 ⟨rfl,hw4⟩;have HK4:=kp (HK9.out.below hw4 HK9.out.lt);clear hd0 hd1 hd2 hd3;obtain ⟨hd0,hd1,hd2,hd3⟩:=jO HK4.out;have HW4:=kp (HW9.out.trans (hw4.mono hs9));have hs4:=HW4.out.size;clear hw4)
        | (go_at_call_of 81 (Value.int IntKind.i64 x.next);go_must (refine (q4 x.next b _ H2.out _).mono ?_);rintro e5 w5 ⟨rfl,hw5⟩;have HK5:=kp (HK4.out.below hw5 HK4.out.lt);clear hd0 hd1 hd2 hd3;obtain ⟨hd0,hd1,hd2,hd3⟩:=jO HK5.out;have HW5:=kp (HW4.out.trans (hw5.mono hs4));have hs5:=HW5.out.size;clear hw5)
        | (go_at_call_of 81 (Value.int IntKind.i64 x.alt);go_must (refine (q4 x.alt c _ H3.out _).mono ?_);rintro e6 w6 ⟨rfl,hw6⟩;have HW6:=kp (HW5.out.trans (hw6.mono hs5));clear hw6))
      all_goals go_ret
      all_goals exact ⟨jG HR.out,by first | exact HW6.out | exact HW5.out | exact HW4.out⟩
theorem QH {a : Int} {b c b' c' : Bool} (h1 : b = b') (h2 : c = c') : Ending.returned (.tuple #[.int .i64 a,.bool b,.bool c]) = Ending.returned (.tuple #[.int .i64 a,.bool b',.bool c']):=by rw [h1,h2]
set_option maxRecDepth 100000 in
set_option maxHeartbeats 800000 in
theorem zG (x : Nd) (_hx : x.Ok) (w : World) :
    Calls Try.prog 72 #[ndA x] w fun e w' => e = .returned (.tuple #[.int .i64 x.arg,.bool (x.kind == 2),.bool (x.kind == 1 || x.kind == 2)]) ∧ Below w.heap.size w w':=by
  obtain ⟨r1,h1⟩ : ∃ r1,(x.kind == 2) = r1:=⟨_,rfl⟩
  obtain ⟨r2,h2⟩ : ∃ r2,(x.kind == 1 || x.kind == 2) = r2:=⟨_,rfl⟩
  have H1:=kp h1;have H2:=kp h2
  rw [h2,h1]
  clear h1 h2
  rw [show ndA x = .agg (ndC x).toArray from rfl]
  by_cases h2 : x.kind = 2
  · have hz2 : (x.kind == 2) = true:=by simpa using h2
    have HE1 : Kept (true = r1):=kp (hz2.symm.trans H1.out)
    have HE2 : Kept (true = r2):=kp (by rw [← H2.out,hz2,Bool.or_true])
    clear h2
    go_enter Try.func72,Try.ntmps72
    go_wp2_with ((with_reducible refine j2 rfl 55 (.tmp 0) rfl (ndC x) rfl ?_);intro g1 w1 hg1 hk1 hw1;obtain ⟨hc0,hc1,hc2,hc3⟩:=jO hk1;have HW1:=kp hw1;clear hg1 hk1 hw1)
    go_quiet (fail)
    go_wp2
    go_ret3
    exact ⟨QH HE1.out HE2.out,below_drewN HW1.out _⟩
  · have hz2 : (x.kind == 2) = false:=by simpa using h2
    have HE1 : Kept (false = r1):=kp (hz2.symm.trans H1.out)
    by_cases h1 : x.kind = 1
    · have hz1 : (x.kind == 1) = true:=by simpa using h1
      have HE2 : Kept (true = r2):=kp (by rw [← H2.out,hz1,Bool.true_or])
      clear h1 h2
      go_enter Try.func72,Try.ntmps72
      go_wp2_with ((with_reducible refine j2 rfl 55 (.tmp 0) rfl (ndC x) rfl ?_);intro g1 w1 hg1 hk1 hw1;obtain ⟨hc0,hc1,hc2,hc3⟩:=jO hk1;have HW1:=kp hw1;clear hg1 hk1 hw1)
      go_quiet (fail)
      go_wp2
      go_ret3
      exact ⟨QH HE1.out HE2.out,below_drewN HW1.out _⟩
    · have hz1 : (x.kind == 1) = false:=by simpa using h1
      have HE2 : Kept (false = r2):=kp (by rw [← H2.out,hz1,hz2];rfl)
      clear h1 h2
      go_enter Try.func72,Try.ntmps72
      go_wp2_with ((with_reducible refine j2 rfl 55 (.tmp 0) rfl (ndC x) rfl ?_);intro g1 w1 hg1 hk1 hw1;obtain ⟨hc0,hc1,hc2,hc3⟩:=jO hk1;have HW1:=kp hw1;clear hg1 hk1 hw1)
      go_quiet (fail)
      go_wp2
      go_ret3
      exact ⟨QH HE1.out HE2.out,below_drewN HW1.out _⟩
def countsFault (p : Pg) : Nat:=if p.g < 0 ∨ p.l < 0 ∨ p.s < 0 ∨ p.len = 0 then 1 else if 16 < p.g ∨ 16 < p.l ∨ 8 < p.s ∨ 16 < p.len then 4 else 0
theorem JN {a b : Int} (h : a = b) : Ending.returned (.int .i64 a) = Ending.returned (.int .i64 b):=by rw [h]
def min3 (x y z : Int) : Int:=if z < (if y < x then y else x) then z else (if y < x then y else x)
theorem min3_neg (x y z : Int) : min3 x y z < 0 ↔ x < 0 ∨ y < 0 ∨ z < 0:=by unfold min3;split <;> split <;> omega
set_option maxRecDepth 100000 in
set_option maxHeartbeats 3200000 in
theorem yH (p : Pg) (c : Nat) (hc : countsFault p = c) (w : World) :
    Calls Try.prog 56 #[pgA p] w fun e w' => e = .returned (.int .i64 (c : Int)) ∧ Below w.heap.size w w':=by
  have HC:=kp hc
  have hmin : ∀ (w : World) (ts : Array TypeId) (t : TypeId),(Builtin.min_ ts t #[.int .i64 p.g,.int .i64 p.l,.int .i64 p.s]).run Try.prog w = .ok (.int .i64 (min3 p.g p.l p.s)) w:=fun w ts t => by rw [run_min_int3];rfl
  have hmn:=min3_neg p.g p.l p.s
  clear hc
  rw [jI]
  generalize min3 p.g p.l p.s = m at *
  by_cases hneg : m < 0
  · have HE : Kept ((1 : Int) = (c : Int)):=kp (by rw [← HC.out];unfold countsFault;rw [if_pos (by rcases hmn.1 hneg with h | h | h <;> omega)];rfl)
    clear hmn
    go_enter Try.func56,Try.ntmps56
    go_wp2_with ((with_reducible refine j2 rfl 24 (.tmp 0) rfl (pgC p) rfl ?_);intro g1 w1 hg1 hk1 hw1;obtain ⟨hc0,hc1,hc2,hc3⟩:=jE hk1;have HW1:=kp hw1;clear hg1 hk1 hw1)
    go_ret
    exact ⟨JN HE.out,HW1.out⟩
  · have hm0 : 0 ≤ m:=by omega
    have hgs : ¬ (p.g < 0 ∨ p.l < 0 ∨ p.s < 0):=fun h => hneg (hmn.2 h)
    clear hmn hneg
    by_cases hz : p.len = 0
    · have HE : Kept ((1 : Int) = (c : Int)):=kp (by rw [← HC.out];unfold countsFault;rw [if_pos (by omega)];rfl)
      have hzb : ((p.len : Int) == 0) = true:=by simp;omega
      clear hz hgs
      go_enter Try.func56,Try.ntmps56
      go_wp2_with ((with_reducible refine j2 rfl 24 (.tmp 0) rfl (pgC p) rfl ?_);intro g1 w1 hg1 hk1 hw1;obtain ⟨hc0,hc1,hc2,hc3⟩:=jE hk1;have HW1:=kp hw1;clear hg1 hk1 hw1)
      go_ret
      exact ⟨JN HE.out,HW1.out⟩
    · have hzb : ((p.len : Int) == 0) = false:=by simp;omega
      by_cases hbig : 16 < p.g ∨ 16 < p.l ∨ 8 < p.s ∨ 16 < p.len
      · have HE : Kept ((4 : Int) = (c : Int)):=kp (by rw [← HC.out];unfold countsFault;rw [if_neg (by omega),if_pos hbig];rfl)
        have hcases : 16 < p.g ∨ (p.g ≤ 16 ∧ 16 < p.l) ∨ (p.g ≤ 16 ∧ p.l ≤ 16 ∧ 8 < p.s) ∨ (p.g ≤ 16 ∧ p.l ≤ 16 ∧ p.s ≤ 8 ∧ 16 < p.len):=by omega
        clear hz hbig hgs
        rcases hcases with h1 | ⟨h1,h2⟩ | ⟨h1,h2,h3⟩ | ⟨h1,h2,h3,h4⟩
        · have b1 : decide (16 < p.g) = true:=by simpa using h1
          go_enter Try.func56,Try.ntmps56
          go_wp2_with ((with_reducible refine j2 rfl 24 (.tmp 0) rfl (pgC p) rfl ?_);intro g1 w1 hg1 hk1 hw1;obtain ⟨hc0,hc1,hc2,hc3⟩:=jE hk1;have HW1:=kp hw1;clear hg1 hk1 hw1)
          go_ret
          exact ⟨JN HE.out,HW1.out⟩
        · have b1 : decide (16 < p.g) = false:=by simp;omega
          have b2 : decide (16 < p.l) = true:=by simpa using h2
          go_enter Try.func56,Try.ntmps56
          go_wp2_with ((with_reducible refine j2 rfl 24 (.tmp 0) rfl (pgC p) rfl ?_);intro g1 w1 hg1 hk1 hw1;obtain ⟨hc0,hc1,hc2,hc3⟩:=jE hk1;have HW1:=kp hw1;clear hg1 hk1 hw1)
          go_ret
          exact ⟨JN HE.out,HW1.out⟩
        · have b1 : decide (16 < p.g) = false:=by simp;omega
          have b2 : decide (16 < p.l) = false:=by simp;omega
          have b3 : decide (8 < p.s) = true:=by simpa using h3
          go_enter Try.func56,Try.ntmps56
          go_wp2_with ((with_reducible refine j2 rfl 24 (.tmp 0) rfl (pgC p) rfl ?_);intro g1 w1 hg1 hk1 hw1;obtain ⟨hc0,hc1,hc2,hc3⟩:=jE hk1;have HW1:=kp hw1;clear hg1 hk1 hw1)
          go_ret
          exact ⟨JN HE.out,HW1.out⟩
        · have b1 : decide (16 < p.g) = false:=by simp;omega
          have b2 : decide (16 < p.l) = false:=by simp;omega
          have b3 : decide (8 < p.s) = false:=by simp;omega
          go_enter Try.func56,Try.ntmps56
          go_wp2_with ((with_reducible refine j2 rfl 24 (.tmp 0) rfl (pgC p) rfl ?_);intro g1 w1 hg1 hk1 hw1;obtain ⟨hc0,hc1,hc2,hc3⟩:=jE hk1;have HW1:=kp hw1;clear hg1 hk1 hw1)
          go_ret
          exact ⟨JN HE.out,HW1.out⟩
      · have HE : Kept ((0 : Int) = (c : Int)):=kp (by rw [← HC.out];unfold countsFault;rw [if_neg (by omega),if_neg hbig];rfl)
        have b1 : decide (16 < p.g) = false:=by simp;omega
        have b2 : decide (16 < p.l) = false:=by simp;omega
        have b3 : decide (8 < p.s) = false:=by simp;omega
        have h4 : p.len ≤ 16:=by omega
        clear hz hbig hgs
        go_enter Try.func56,Try.ntmps56
        go_wp2_with ((with_reducible refine j2 rfl 24 (.tmp 0) rfl (pgC p) rfl ?_);intro g1 w1 hg1 hk1 hw1;obtain ⟨hc0,hc1,hc2,hc3⟩:=jE hk1;have HW1:=kp hw1;clear hg1 hk1 hw1)
        go_ret
        exact ⟨JN HE.out,HW1.out⟩
theorem uB {p : Pg} {f : Fn} {a a' : Int} {c c' : Nat} (h : Q.fnFault p f = (a,c)) (h' : Q.fnFault p f = (a',c')) : Ending.returned (.tuple #[.int .i64 a',.int .i64 (c' : Int)]) = Ending.returned (.tuple #[.int .i64 a,.int .i64 (c : Int)]):=by
  rw [h] at h'
  injection h' with h1 h2
  rw [h1,h2]
set_option maxRecDepth 100000 in
set_option maxHeartbeats 3200000 in
theorem yW (B : Nat) (p : Pg) (fn : Fn) (a : Int) (c : Nat) (hc : Q.fnFault p fn = (a,c)) (w : World) (hp : p.Ok w B) (hf : fn.Ok w B) (hB : B ≤ w.heap.size) :
    Calls Try.prog 57 #[pgA p,.slice fn.A fn.len fn.cap] w fun e w' => e = .returned (.tuple #[.int .i64 a,.int .i64 (c : Int)]) ∧ Below w.heap.size w w':=by
  have HC:=kp hc;have HP:=kp hp;have HF:=kp hf
  have hfl:=hf.nodes.1.len
  have HFl:=kp hfl
  have hfc:=hf.lc;have hfm:=hf.cm
  unfold maxLen at hfm
  have hfm9 : fn.cap ≤ 9223372036854775807:=by omega
  clear hc hp hf hfm
  rw [jI]
  by_cases hz0 : fn.len = 0
  · have HE:=kp (uB (a':=-1) (c':=1) HC.out (by rw [Q.fault_empty p fn (by rw [hfl];exact hz0)]))
    have hzb : ((fn.len : Int) == 0) = true:=by simp;omega
    clear hz0 hfl
    go_enter Try.func57,Try.ntmps57
    go_wp2_with ((with_reducible refine j2 rfl 24 (.tmp 0) rfl (pgC p) rfl ?_);intro g1 w1 hg1 hk1 hw1;have HW1:=kp hw1;clear hg1 hk1 hw1)
    go_ret2
    exact ⟨HE.out,HW1.out⟩
  · have hzb : ((fn.len : Int) == 0) = false:=by simp;omega
    by_cases h64 : 64 < fn.len
    · have HE:=kp (uB (a':=-1) (c':=4) HC.out (by rw [Q.fault_long p fn (by rw [hfl];exact h64)]))
      clear hz0 hfl
      go_enter Try.func57,Try.ntmps57
      go_wp2_with ((with_reducible refine j2 rfl 24 (.tmp 0) rfl (pgC p) rfl ?_);intro g1 w1 hg1 hk1 hw1;have HW1:=kp hw1;clear hg1 hk1 hw1)
      go_ret2
      exact ⟨HE.out,HW1.out⟩
    · have h64' : fn.len ≤ 64:=by omega
      have HFl64 : Kept (I64 (fn.len : Int)):=kp ⟨by omega,by omega⟩
      have HZ:=kp hz0
      clear h64 hfl hz0
      go_enter Try.func57,Try.ntmps57
      go_wp2_with ((with_reducible refine j2 rfl 24 (.tmp 0) rfl (pgC p) rfl ?_);intro g1 w1 hg1 hk1 hw1;have HK1:=kp hk1;have HW1:=kp hw1;have hs1:=hw1.size;clear hg1 hk1 hw1)
      have hB1 : B ≤ w1.heap.size:=by omega
      go_loopw [16] (fun v16 wq => ∃ i : Nat,i ≤ fn.len ∧ v16 = .int .i64 i ∧ (∀ j,j < i → ¬ Q.badNode p fn j) ∧ Below w1.heap.size w1 wq) (fun v16 _ => fn.len - (intOf v16).toNat)
      case atStart => exact ⟨0,by omega,rfl,fun j hj => by omega,Below.refl _ _⟩
      case round =>
        obtain ⟨i,hi,rfl,hpre,hbl⟩:=hrel
        have HPre:=kp hpre;have HBL:=kp hbl
        have HKr:=kp (HK1.out.below hbl HK1.out.lt)
        have hszr:=hbl.size
        have HBw:=kp (HW1.out.trans (hbl.mono hs1))
        have HPr:=kp (HP.out.below (HBw.out.mono hB))
        clear hpre hbl
        by_cases hli : i < fn.len
        · obtain ⟨bd,x,e3,hbb,hy,hxok,hn0,hn1,hn2,hn3⟩:=(HF.out.keep (w':=wr) fun _ hp => (HBw.out.mono hB).cell hp).nodes.get hli
          rw [e3]
          have HXOk:=kp hxok
          obtain ⟨m,hm⟩ : ∃ m,Q.may p.g p.l p.s p.len x fn.len = m:=⟨_,rfl⟩
          have HM:=kp hm
          have HBad : Kept (m = false ↔ Q.badNode p fn i):=kp <| by
            rw [← hm]
            unfold Q.badNode
            rw [HFl.out]
            constructor
            · intro h;exact ⟨x,hy,h⟩
            · rintro ⟨nd,h1,h2⟩
              rw [hy] at h1
              cases h1
              exact h2
          clear hxok hm hy e3
          cases m
          · have HE:=kp (uB HC.out (Q.fault_node p fn i (by rw [HFl.out];exact HZ.out) (by rw [HFl.out];exact h64') (HBad.out.1 rfl) (by rw [HFl.out];exact hli) HPre.out))
            go_wp2_with (first
              | ((with_reducible show Sl 7);go_must (refine j3 rfl 55 rfl (ndC ⟨0,0,0,0⟩) jQ ?_);intro g5 w6 hg5 hk6 hw6;have HG5:=kp hg5;have HK6:=kp hk6;have HW6:=kp hw6;clear hg5 hk6 hw6)
              | ((with_reducible show Sn);go_must (refine j4 rfl 55 (.tmp 7) (.tmp 20) rfl g5 (ndC x) rfl rfl _ _ HK6.out jH rfl (jR x) ?_);intro w7 hk7 hg7 hs7
                 obtain ⟨hx0,hx1,hx2,hx3⟩:=jO hk7
                 have HBq7:=kp (HW6.out.grown hg7 HW6.out.size (fun k hk => by cases hk;exact HG5.out))
                 have HB7:=kp (HBL.out.trans (HBq7.out.mono hszr))
                 have HK7:=kp (HKr.out.below HBq7.out HKr.out.lt)
                 have HP7:=kp (HPr.out.below (HBq7.out.mono (Nat.le_trans hB1 hszr)))
                 have hsz7:=HBq7.out.size
                 clear hk7 hg7 hs7 hn0 hn1 hn2 hn3)
              | ((with_reducible show Sl 21);go_must (refine j1 rfl 24 (.tmp 2) rfl g1 rfl _ (pgC p) _ HK7.out Try.underlying24 rfl jD ?_))
              | (go_at_call 76;go_must (refine (JV B p x HXOk.out fn.len HFl64.out false HM.out _ HP7.out (by omega)).mono ?_);rintro e9 w9 ⟨rfl,hw9⟩;have HB9:=kp (HB7.out.trans (hw9.mono (Nat.le_trans hszr hsz7)));clear hw9))
            go_ret2
            exact ⟨HE.out,HW1.out.trans (HB9.out.mono hs1)⟩
          · have HNx : Kept (∀ j,j < i + 1 → ¬ Q.badNode p fn j):=kp fun j hj h => by
              by_cases e : j = i
              · subst e
                have:=HBad.out.2 h
                cases this
              · exact HPre.out j (by omega) h
            go_wp2_with (first
              | ((with_reducible show Sl 7);go_must (refine j3 rfl 55 rfl (ndC ⟨0,0,0,0⟩) jQ ?_);intro g5 w6 hg5 hk6 hw6;have HG5:=kp hg5;have HK6:=kp hk6;have HW6:=kp hw6;clear hg5 hk6 hw6)
              | ((with_reducible show Sn);go_must (refine j4 rfl 55 (.tmp 7) (.tmp 20) rfl g5 (ndC x) rfl rfl _ _ HK6.out jH rfl (jR x) ?_);intro w7 hk7 hg7 hs7
                 obtain ⟨hx0,hx1,hx2,hx3⟩:=jO hk7
                 have HBq7:=kp (HW6.out.grown hg7 HW6.out.size (fun k hk => by cases hk;exact HG5.out))
                 have HB7:=kp (HBL.out.trans (HBq7.out.mono hszr))
                 have HK7:=kp (HKr.out.below HBq7.out HKr.out.lt)
                 have HP7:=kp (HPr.out.below (HBq7.out.mono (Nat.le_trans hB1 hszr)))
                 have hsz7:=HBq7.out.size
                 clear hk7 hg7 hs7 hn0 hn1 hn2 hn3)
              | ((with_reducible show Sl 21);go_must (refine j1 rfl 24 (.tmp 2) rfl g1 rfl _ (pgC p) _ HK7.out Try.underlying24 rfl jD ?_))
              | (go_at_call 76;go_must (refine (JV B p x HXOk.out fn.len HFl64.out true HM.out _ HP7.out (by omega)).mono ?_);rintro e9 w9 ⟨rfl,hw9⟩;have HB9:=kp (HB7.out.trans (hw9.mono (Nat.le_trans hszr hsz7)));clear hw9))
            go_roundw
            case rel => exact ⟨i + 1,by omega,by go_num,HNx.out,HB9.out⟩
            case measure => simp [intOf];omega
        · have HE:=kp (uB HC.out (Q.fault_none p fn (by rw [HFl.out];exact HZ.out) (by rw [HFl.out];exact h64') fun j hj => HPre.out j (by rw [HFl.out] at hj;omega)))
          have hge : fn.len ≤ i:=by omega
          clear hli
          go_wp2
          go_ret2
          exact ⟨HE.out,HBw.out⟩
set_option maxRecDepth 1000000 in
set_option maxHeartbeats 8000000 in
theorem J5 (B : Nat) (p : Pg) (w : World) (hp : p.Ok w B) (hB : B ≤ w.heap.size) (hco : Q.Counts p) (hfine : ∀ j,j < p.fns.length → ¬ Q.badFn p j) (a b : Int) (c : Nat) (hc : Q.check p = (a,b,c)) :
    Calls Try.prog 58 #[pgA p] w fun e w' => e = .returned (.tuple #[.int .i64 a,.int .i64 b,.int .i64 (c : Int)]) ∧ Below w.heap.size w w':=by
  have HP:=kp hp;have HC:=kp hc;have HCo:=kp hco;have HFine:=kp hfine
  have HFit:=kp (uP hfine)
  have hlen:=hp.row.len
  have HLen:=kp hlen
  have h16 : p.len ≤ 16:=by rw [← hlen];exact hco.f.2
  have hlc:=hp.lc;have hcm:=hp.cm
  unfold maxLen at hcm
  have hcm9 : p.cap ≤ 9223372036854775807:=by omega
  clear hp hfine hlen hcm hc hco
  rw [jI]
  go_enter Try.func58,Try.ntmps58
  go_wp2_with (first
    | ((with_reducible refine j2 rfl 24 (.tmp 0) rfl (pgC p) rfl ?_);intro g1 w1 hg1 hk1 hw1;have HK1:=kp hk1;have HW1:=kp hw1;have hs1:=hw1.size;have HP1:=kp (HP.out.below (hw1.mono hB));clear hg1 hk1 hw1)
    | ((with_reducible show Sl 10);go_must (refine j1 rfl 24 (.tmp 1) rfl g1 rfl _ (pgC p) _ HK1.out Try.underlying24 rfl jD ?_))
    | (go_at_call 77;go_must (refine (QO B p _ HP1.out (by omega) HFit.out h16).mono ?_);rintro e9 w2 ⟨L,rfl,hL,hent,hw2⟩;have HL:=kp hL;have HEnt:=kp hent;have HKp2:=kp (HK1.out.below hw2 HK1.out.lt);have HW2:=kp (HW1.out.trans (hw2.mono hs1));have hs2:=HW2.out.size;clear hL hent hw2)
    | ((with_reducible show Sl 5);go_must (refine j3 rfl 149 rfl (relC (List.replicate 256 false)) JO ?_);intro g3 w3 hg3 hk3 hw3;have HG3:=kp hg3;have HK3:=kp hk3;have HW3:=kp hw3;clear hg3 hk3 hw3)
    | ((with_reducible show Sn);go_must (refine j4 rfl 149 (.tmp 5) (.tmp 11) rfl g3 (relC L) rfl rfl _ _ HK3.out (by rw [xB,HL.out];exact vS) (by rw [xB,xB,HL.out,List.length_replicate]) (XK L) ?_);intro w4 hk4 hg4 _
       have HK4:=kp hk4
       have HB24:=kp (HW3.out.grown hg4 HW3.out.size (fun k hk => by cases hk;exact HG3.out))
       have HKp4:=kp (HKp2.out.below HB24.out HKp2.out.lt)
       obtain ⟨hc0,hc1,hc2,hc3⟩:=jE HKp4.out
       have HW4:=kp (HW2.out.trans (HB24.out.mono hs2))
       have hs4:=HW4.out.size
       clear hk4 hg4))
  clear hc0 hc1 hc2 hc3
  have HP4:=kp (HP.out.below (HW4.out.mono hB))
  have hB4 : B ≤ w4.heap.size:=by omega
  go_loopw [15] (fun v15 wr => ∃ f : Nat,f ≤ p.len ∧ v15 = .int .i64 f ∧ (∀ j,j < f → ¬ Q.badRound p j) ∧ Below w4.heap.size w4 wr) (fun v15 _ => p.len - (intOf v15).toNat)
  case atStart => exact ⟨0,by omega,rfl,fun j hj => by omega,Below.refl _ _⟩
  case round =>
    obtain ⟨f,hf,rfl,hpre,hbl⟩:=hrel
    have HPre:=kp hpre;have HBL:=kp hbl
    have HPr:=kp (HP4.out.below (hbl.mono hB4))
    clear hpre hbl
    by_cases hlt : f < p.len
    · obtain ⟨ad,fn,e1,hab0,hx,hok0,hcf⟩:=HPr.out.fn hlt
      rw [e1]
      have HE1:=kp e1
      clear e1
      have HX:=kp hx
      obtain ⟨hf0,hf64,hmays⟩:=Q.fine_fn hx (HFine.out f (by rw [HLen.out];exact hlt))
      have hfl:=hok0.nodes.1.len
      have hfc:=hok0.lc;have hfm:=hok0.cm
      unfold maxLen at hfm
      have hfm9 : fn.cap ≤ 9223372036854775807:=by omega
      rw [hfl] at hf64
      have HMays:=kp hmays
      have HFl:=kp hfl
      clear hx hok0 hfm hf0 hmays hfl
      go_wp2
      clear hcf
      go_loopw [22] (fun v22 wq => ∃ i : Nat,i ≤ fn.len ∧ v22 = .int .i64 i ∧ (∀ j,j < i → ¬ Q.roundAt p f j) ∧ Below w4.heap.size w4 wq) (fun v22 _ => fn.len - (intOf v22).toNat)
      case atStart => exact ⟨0,by omega,rfl,fun j hj => by omega,HBL.out⟩
      case round =>
        clear HBL HPr
        obtain ⟨i,hi,rfl,hpre,hbl⟩:=hrel
        have HPreI:=kp hpre;have HBL:=kp hbl
        have hszq:=hbl.size
        obtain ⟨ad',fn',e1',hab,hx',hok,_⟩:=(HP4.out.below (hbl.mono hB4)).fn hlt
        rw [HE1.out] at e1'
        cases e1'
        rw [HX.out] at hx'
        cases hx'
        have HK:=kp (HK4.out.below hbl HK4.out.lt)
        clear hpre hbl
        by_cases hli : i < fn.len
        · obtain ⟨bd,x,e3,hbb,hy,hxok,hn0,hn1,hn2,hn3⟩:=hok.nodes.get hli
          rw [e3]
          have HY:=kp hy
          clear hok hy hxok e3
          by_cases h7 : x.kind = 7
          · have hz7 : (x.kind == 7) = true:=by simpa using h7
            obtain ⟨ha0,han⟩:=L7 (HMays.out i x HY.out) h7
            obtain ⟨k,hk⟩ : ∃ k : Nat,x.arg = (k : Int):=⟨x.arg.toNat,by omega⟩
            have hkn : k < p.len:=by omega
            have hk16 : k < 16:=by omega
            have hf16 : f < 16:=by omega
            obtain ⟨v,hv,hev⟩:=Q.ent_at HL.out hk16 hf16
            have HV:=kp hv
            have HRd : Kept (Q.roundAt p f i ↔ v = true):=kp <| by
              rw [← hev,HEnt.out k f hk16 hf16]
              unfold Q.roundAt
              have hcall : Q.calls p f k:=⟨fn,HX.out,x,List.mem_of_getElem? HY.out,h7,hk⟩
              constructor
              · rintro ⟨fn2,nd,g1',g2',_,k2,g4,g5,g6⟩
                rw [HX.out] at g1'
                cases g1'
                rw [HY.out] at g2'
                cases g2'
                have : k2 = k:=by omega
                subst this
                rcases g6 with g6 | g6
                · subst g6
                  exact .one hcall
                · rw [HLen.out] at g6
                  exact Q.reach_more h16 g6
              · intro h
                refine ⟨fn,x,HX.out,HY.out,h7,k,hk,by rw [HLen.out];exact hkn,.inr ?_⟩
                rw [HLen.out]
                exact Q.reach_less (Q.calls_lt HFit.out) h
            have HKx:=kp hk
            have hfi : (f : Int) < (16 : Int):=by omega
            have hki : (k : Int) < (16 : Int):=by omega
            have hf0 : (0 : Int) ≤ (f : Int):=by omega
            have hk0 : (0 : Int) ≤ (k : Int):=by omega
            clear h7 ha0 han hk hv hev
            cases v
            · have HNx : Kept (∀ j,j < i + 1 → ¬ Q.roundAt p f j):=kp fun j hj h => by
                by_cases e : j = i
                · subst e
                  have:=HRd.out.1 h
                  cases this
                · exact HPreI.out j (by omega) h
              go_wp2_with (first
                | ((with_reducible show Sl 9);go_must (refine j3 rfl 55 rfl (ndC ⟨0,0,0,0⟩) jQ ?_);intro g5 w6 hg5 hk6 hw6;have HG5:=kp hg5;have HK6:=kp hk6;have HW6:=kp hw6;clear hg5 hk6 hw6)
                | ((with_reducible show Sn);go_must (refine j4 rfl 55 (.tmp 9) (.tmp 26) rfl g5 (ndC x) rfl rfl _ _ HK6.out jH rfl (jR x) ?_);intro w7 hk7 hg7 hs7
                   obtain ⟨hx0,hx1,hx2,hx3⟩:=jO hk7
                   have HBq7:=kp (HW6.out.grown hg7 HW6.out.size (fun k hk => by cases hk;exact HG5.out))
                   have HB7:=kp (HBL.out.trans (HBq7.out.mono hszq))
                   have hcv:=((HK.out.below HBq7.out HK.out.lt).cell (k * 16 + f)).trans (qJ HV.out)
                   rw [HKx.out] at hx1
                   clear hk7 hg7 hs7 hn0 hn1 hn2 hn3))
              go_roundw
              case rel => exact ⟨i + 1,by omega,by go_num,HNx.out,HB7.out⟩
              case measure => simp [intOf];omega
            · have HE:=kp (q6 HC.out (Q.check_round HCo.out HFine.out (HRd.out.2 rfl) (by omega) (by rw [HLen.out];exact hlt) HPre.out HPreI.out))
              go_wp2_with (first
                | ((with_reducible show Sl 9);go_must (refine j3 rfl 55 rfl (ndC ⟨0,0,0,0⟩) jQ ?_);intro g5 w6 hg5 hk6 hw6;have HG5:=kp hg5;have HK6:=kp hk6;have HW6:=kp hw6;clear hg5 hk6 hw6)
                | ((with_reducible show Sn);go_must (refine j4 rfl 55 (.tmp 9) (.tmp 26) rfl g5 (ndC x) rfl rfl _ _ HK6.out jH rfl (jR x) ?_);intro w7 hk7 hg7 hs7
                   obtain ⟨hx0,hx1,hx2,hx3⟩:=jO hk7
                   have HBq7:=kp (HW6.out.grown hg7 HW6.out.size (fun k hk => by cases hk;exact HG5.out))
                   have HB7:=kp (HBL.out.trans (HBq7.out.mono hszq))
                   have hcv:=((HK.out.below HBq7.out HK.out.lt).cell (k * 16 + f)).trans (qJ HV.out)
                   rw [HKx.out] at hx1
                   clear hk7 hg7 hs7 hn0 hn1 hn2 hn3))
              go_ret3
              exact ⟨HE.out,HW4.out.trans (HB7.out.mono hs4)⟩
          · have hz7 : (x.kind == 7) = false:=by simpa using h7
            have HNx : Kept (∀ j,j < i + 1 → ¬ Q.roundAt p f j):=kp fun j hj h => by
              by_cases e : j = i
              · subst e
                obtain ⟨fn2,nd,g1',g2',g3,_⟩:=h
                rw [HX.out] at g1'
                cases g1'
                rw [HY.out] at g2'
                cases g2'
                exact h7 g3
              · exact HPreI.out j (by omega) h
            clear h7
            go_wp2_with (first
              | ((with_reducible show Sl 9);go_must (refine j3 rfl 55 rfl (ndC ⟨0,0,0,0⟩) jQ ?_);intro g5 w6 hg5 hk6 hw6;have HG5:=kp hg5;have HK6:=kp hk6;have HW6:=kp hw6;clear hg5 hk6 hw6)
              | ((with_reducible show Sn);go_must (refine j4 rfl 55 (.tmp 9) (.tmp 26) rfl g5 (ndC x) rfl rfl _ _ HK6.out jH rfl (jR x) ?_);intro w7 hk7 hg7 hs7
                 obtain ⟨hx0,hx1,hx2,hx3⟩:=jO hk7
                 have HBq7:=kp (HW6.out.grown hg7 HW6.out.size (fun k hk => by cases hk;exact HG5.out))
                 have HB7:=kp (HBL.out.trans (HBq7.out.mono hszq))
                 clear hk7 hg7 hs7 hn0 hn1 hn2 hn3))
            go_roundw
            case rel => exact ⟨i + 1,by omega,by go_num,HNx.out,HB7.out⟩
            case measure => simp [intOf];omega
        · have HNx : Kept (∀ j,j < f + 1 → ¬ Q.badRound p j):=kp fun j hj h => by
            by_cases e : j = f
            · subst e
              obtain ⟨i2,h2⟩:=h
              by_cases hlt2 : i2 < i
              · exact HPreI.out i2 hlt2 h2
              · obtain ⟨fn2,nd,g1',g2',_⟩:=h2
                rw [HX.out] at g1'
                cases g1'
                have:=(List.getElem?_eq_some_iff.1 g2').1
                rw [HFl.out] at this
                omega
            · exact HPre.out j (by omega) h
          have hge : fn.len ≤ i:=by omega
          clear hli hok
          go_wp2
          go_roundw
          case rel => exact ⟨f + 1,by omega,by go_num,HNx.out,HBL.out⟩
          case measure => simp [intOf];omega
    · have HE:=kp (q6 HC.out (Q.check_fine HCo.out HFine.out fun j hj => HPre.out j (by rw [HLen.out] at hj;omega)))
      have hge : p.len ≤ f:=by omega
      clear hlt
      go_wp2
      go_ret3
      exact ⟨HE.out,HW4.out.trans (HBL.out.mono hs4)⟩
end Go.Proofs.Ytnaomfmmkhgbhaa
