/- Whom functions come to by calls, as the document makes it, walked: Calls. -/
import Derived.Test.YtoekiejipdabmaaDoorPk1
import Derived.Test.YtoekiejipdabmaaDoorPk3
namespace Go.Proofs.YtoekiejipdabmaaDoor
open Go.RowKit
theorem QA : (Tryd.prog.info? 76).map (fun i => (i.zero,i.size,i.bytes)) = some (some (.slice none 0 0),1,24):=by kernel_rfl
theorem getD_at {α : Type} {l : List α} {k : Nat} {x d : α} (h : l[k]? = some x) : l.getD k d = x:=by rw [List.getD_eq_getElem?_getD,h];rfl
theorem zP (l : List Nd) (i : Nat) (x : Nd) (h : l[i]? = some x) (y : Nat) : Q.callsTo (l.take (i + 1)) y ↔ Q.callsTo (l.take i) y ∨ (x.kind = 7 ∧ x.arg = (y : Int)):=by
  unfold Q.callsTo
  rw [List.take_add_one,h]
  constructor
  · rintro ⟨nd,hnd,h1⟩
    rcases List.mem_append.1 hnd with hm | hm
    · exact .inl ⟨nd,hm,h1⟩
    · rw [Option.toList_some,List.mem_singleton] at hm
      subst hm
      exact .inr h1
  · rintro (⟨nd,hnd,h1⟩ | h1)
    · exact ⟨nd,List.mem_append.2 (.inl hnd),h1⟩
    · exact ⟨x,List.mem_append.2 (.inr (by simp)),h1⟩
theorem YF (M : List (List Nat)) (r : List Nat) (x y : Nat) : Q.mget (M ++ [r]) x y = if x < M.length then Q.mget M x y else if x = M.length then r.getD y 0 else 0:=by
  unfold Q.mget
  by_cases h1 : x < M.length
  · rw [if_pos h1,List.getD_eq_getElem?_getD (l:=M ++ [r]),List.getElem?_append_left h1,← List.getD_eq_getElem?_getD]
  · rw [if_neg h1]
    by_cases h2 : x = M.length
    · rw [if_pos h2,List.getD_eq_getElem?_getD (l:=M ++ [r]),List.getElem?_append_right (by omega),h2,Nat.sub_self]
      rfl
    · rw [if_neg h2,List.getD_eq_getElem?_getD (l:=M ++ [r]),List.getElem?_eq_none (by simp;omega)]
      rfl
theorem set_one (r : List Nat) (k y : Nat) (hk : k < r.length) : (r.set k 1).getD y 0 = 1 ↔ r.getD y 0 = 1 ∨ k = y:=by
  by_cases h : k = y
  · subst h
    rw [List.getD_eq_getElem?_getD,List.getElem?_set_self hk]
    simp
  · rw [List.getD_eq_getElem?_getD,List.getElem?_set_ne h,← List.getD_eq_getElem?_getD]
    simp [h]
set_option maxRecDepth 1000000 in
set_option maxHeartbeats 4000000 in
theorem Y8 (B : Nat) (p : Pg) (w : World) (hp : p.Ok w B) (hB : B ≤ w.heap.size) (hfit : Q.CallsFit p) (h16 : p.len ≤ 1000) :
    Calls Tryd.prog 23 #[pgA p] w fun e w' => ∃ v gs M,e = .returned v ∧ Mat w' w.heap.size 76 3 v p.len gs M ∧ Q.Square p.len M ∧ (∀ x y,x < p.len → y < p.len → (Q.mget M x y = 1 ↔ Q.Reach (Q.calls p) p.len x y)) ∧ Below w.heap.size w w':=by
  have HP:=kp hp;have HFit:=kp hfit
  have hlen:=hp.row.len
  have HLen:=kp hlen
  have hlc:=hp.lc;have hcm:=hp.cm
  unfold maxLen at hcm
  have hcm9 : p.cap ≤ 9223372036854775807:=by omega
  clear hp hfit hlen hcm
  rw [jM]
  go_enter Tryd.func23,Tryd.ntmps23
  go_wp2_with ((with_reducible refine j4 rfl 24 (.tmp 0) rfl (pgC p) rfl ?_);intro g1 w1 hg1 hk1 hw1;have HK1:=kp hk1;obtain ⟨hc0,hc1,hc2,hc3⟩:=j8 hk1;have HW1:=kp hw1;have hs1:=hw1.size;clear hg1 hk1 hw1)
  have HP1:=kp (HP.out.below (HW1.out.mono hB))
  have hB1 : B ≤ w1.heap.size:=by omega
  clear hc0 hc1 hc2 hc3
  go_loopw [4,5] (fun v4 v5 wr => ∃ (f : Nat) (gs : List Nat) (M : List (List Nat)),f ≤ p.len ∧ v5 = .int .i64 f ∧ M.length = f ∧ (∀ r ∈ M,r.length = p.len) ∧ (∀ x y,x < f → y < p.len → (Q.mget M x y = 1 ↔ Q.calls p x y)) ∧ Mat wr w1.heap.size 76 3 v4 p.len gs M ∧ Below w1.heap.size w1 wr) (fun _ v5 _ => p.len - (intOf v5).toNat)
  case atStart => exact ⟨0,[],[],by omega,rfl,rfl,by simp,fun x y hx => by omega,Mat.nil _ _ _ _ _,Below.refl _ _⟩
  case round =>
    obtain ⟨f,gs,M,hf,rfl,hM,hrows,hent,hmat,hbl⟩:=hrel
    have HRows:=kp hrows;have HEnt:=kp hent;have HMat:=kp hmat;have HBL:=kp hbl
    have hsz:=hbl.size
    obtain ⟨hc0,hc1,hc2,hc3⟩:=j8 (HK1.out.below hbl HK1.out.lt)
    have HPr:=kp (HP1.out.below (hbl.mono hB1))
    clear hrows hent hmat hbl
    by_cases hlt : f < p.len
    · obtain ⟨ad,fn,e1,hab,hx,hok,hcf⟩:=HPr.out.fn hlt
      rw [e1]
      have HE1:=kp e1
      clear e1
      have hfc:=hok.lc;have hfm:=hok.cm
      unfold maxLen at hfm
      have hfm9 : fn.cap ≤ 9223372036854775807:=by omega
      have HX:=kp hx
      have hfl:=hok.nodes.1.len
      have HFl:=kp hfl
      have HFitF : Kept (∀ nd ∈ fn.nodes,nd.kind = 7 → 0 ≤ nd.arg ∧ nd.arg < p.len):=kp (HFit.out fn (List.mem_of_getElem? hx))
      clear hx hok hfm hcf hfl hc0 hc1 hc2 hc3
      go_wp2_with ((with_reducible show Sl 20);go_must (refine l9 rfl 76 (.tmp 19) (.tmp 19) rfl 3 (.int .i64 0) 8 Tryd.underlying76 q6 rfl .i64 .i64 p.len p.len rfl rfl (by omega) (by omega) (by omega) ?_);intro g2 w2 hg2 hk2 hw2;have HK2 : Kept (Blk w2 g2 3 ((List.replicate p.len 0).map natV)):=kp (by rw [List.map_replicate];exact hk2);have HW2:=kp hw2;have HG2:=kp hg2;clear hg2 hk2 hw2)
      have HFr:=kp (HMat.out.fresh HG2.out)
      have hg2w : w1.heap.size ≤ g2:=Nat.le_trans hsz HG2.out
      have hgsl : gs.length = f:=by rw [HMat.out.len,hM]
      go_loopw [7] (fun v7 wq => ∃ (i : Nat) (r : List Nat),i ≤ fn.len ∧ v7 = .int .i64 i ∧ r.length = p.len ∧ (∀ y,y < p.len → (r.getD y 0 = 1 ↔ Q.callsTo (fn.nodes.take i) y)) ∧ Blk wq g2 3 (r.map natV) ∧ Below wr.heap.size wr wq) (fun v7 _ => fn.len - (intOf v7).toNat)
      case atStart => exact ⟨0,List.replicate p.len 0,by omega,rfl,List.length_replicate,fun y hy => by
        rw [List.getD_eq_getElem?_getD,List.getElem?_replicate,if_pos hy]
        simp [Q.callsTo],HK2.out,HW2.out⟩
      case round =>
        obtain ⟨i,r,hi,rfl,hr,hcalls,hk,hbq⟩:=hrel
        have HCalls:=kp hcalls;have HK:=kp hk;have HBq:=kp hbq
        have HB1q:=kp (HBL.out.trans (hbq.mono hsz))
        obtain ⟨hc0,hc1,hc2,hc3⟩:=j8 (HK1.out.below HB1q.out HK1.out.lt)
        rw [HE1.out] at hc3
        have HPq:=kp (HPr.out.below (hbq.mono (by omega)))
        obtain ⟨ad',fn',e1',_,hx',hok,hcf⟩:=HPq.out.fn hlt
        rw [HE1.out] at e1'
        cases e1'
        rw [HX.out] at hx'
        cases hx'
        clear hcalls hk hbq
        by_cases hli : i < fn.len
        · obtain ⟨bd,x,e3,hbb,hy,hxok,hn0,hn1,hn2,hn3⟩:=hok.nodes.get hli
          rw [e3] at hcf
          have hsn:=zP fn.nodes i x hy
          have HSn:=kp hsn
          by_cases h7 : x.kind = 7
          · have hz : (x.kind == 7) = true:=by simpa using h7
            obtain ⟨ha0,han⟩:=HFitF.out x (List.mem_of_getElem? hy) h7
            obtain ⟨k,hk⟩ : ∃ k : Nat,x.arg = (k : Int):=⟨x.arg.toNat,by omega⟩
            have hkn : k < p.len:=by omega
            rw [hk] at hn1
            have HN : Kept (∀ y,y < p.len → ((r.set k 1).getD y 0 = 1 ↔ Q.callsTo (fn.nodes.take (i + 1)) y)):=kp fun y hy' => by
              rw [set_one r k y (by omega),HSn.out y,HCalls.out y hy',hk]
              constructor
              · rintro (h | h)
                · exact .inl h
                · exact .inr ⟨h7,by omega⟩
              · rintro (h | ⟨_,h⟩)
                · exact .inl h
                · exact .inr (by omega)
            have hcr:=HK.out.cell k
            have hfr:=HK.out.frozen k
            obtain ⟨y0,hy0⟩ : ∃ y0,(r.map natV)[k]? = some y0:=⟨_,List.getElem?_eq_getElem (by rw [List.length_map];omega)⟩
            rw [hy0] at hcr
            clear h7 hsn hy hxok hok hk hy0 ha0 han
            go_wp2
            go_roundw
            case rel => exact ⟨i + 1,r.set k 1,by omega,by go_num,by rw [List.length_set];exact hr,HN.out,by rw [List.map_set];exact HK.out.set k (natV 1),HBq.out.setCell HG2.out _⟩
            case measure => simp [intOf];omega
          · have hz : (x.kind == 7) = false:=by simpa using h7
            have HN : Kept (∀ y,y < p.len → (r.getD y 0 = 1 ↔ Q.callsTo (fn.nodes.take (i + 1)) y)):=kp fun y hy' => by
              rw [HSn.out y,HCalls.out y hy']
              simp [h7]
            clear h7 hsn hy hxok hok
            go_wp2
            go_roundw
            case rel => exact ⟨i + 1,r,by omega,by go_num,hr,HN.out,HK.out,HBq.out⟩
            case measure => simp [intOf];omega
        · have HNew : Kept (∀ x y,x < f + 1 → y < p.len → (Q.mget (M ++ [r]) x y = 1 ↔ Q.calls p x y)):=kp fun x y hx hy => by
            rw [YF]
            by_cases hxf : x < f
            · rw [if_pos (by omega)]
              exact HEnt.out x y hxf hy
            · have hxe : x = f:=by omega
              subst hxe
              rw [if_neg (by omega),if_pos hM.symm,HCalls.out y hy,List.take_of_length_le (by rw [HFl.out];omega)]
              unfold Q.callsTo Q.calls
              constructor
              · rintro ⟨nd,h1,h2⟩
                exact ⟨fn,HX.out,nd,h1,h2⟩
              · rintro ⟨f',h1,nd,h2,h3⟩
                rw [HX.out] at h1
                cases h1
                exact ⟨nd,h2,h3⟩
          have HRw2 : Kept (∀ q ∈ M ++ [r],q.length = p.len):=kp fun q hq => by
            rcases List.mem_append.1 hq with hq | hq
            · exact HRows.out q hq
            · rw [List.mem_singleton] at hq;rw [hq];exact hr
          have HMat2:=kp (HMat.out.below HBq.out)
          have hszq:=HB1q.out.size
          have hgel : fn.len ≤ i:=by omega
          clear hli hok
          go_wp2_with (at_builtin;go_must (refine jO rfl (.tmp 52) (.tmp 54) 74 rfl w1.heap.size 76 _ _ Tryd.underlying74 QA rfl _ _ _ _ rfl HMat2.out.own _ 1 rfl rfl rfl (by simp [maxLen,hgsl];omega) (by simp [hgsl];omega) hszq ?_);intro v5 w5 hown5 hg5;have HO5:=kp hown5;clear hown5;have HG5:=kp hg5;clear hg5)
          go_roundw
          case rel => exact ⟨f + 1,gs ++ [g2],M ++ [r],by omega,by go_num,by simp [hM],HRw2.out,HNew.out,HMat2.out.snoc HO5.out HG5.out HK.out hr hg2w HFr.out,HG5.out.below HB1q.out HMat2.out.own hszq⟩
          case measure => simp [intOf];omega
    · have hfe : f = p.len:=by omega
      have HClose : Kept (Q.Closing (Q.calls p) p.len 0 0 0 M):=kp (Q.Closing.start ⟨by rw [hM,hfe],HRows.out⟩ fun x y hx hy => HEnt.out x y (by omega) hy)
      have hgef : p.len ≤ f:=by omega
      clear hlt hfe
      go_wp2
      have HMat0:=HMat;have HBL0:=HBL
      clear HMat HBL HEnt HRows HPr hc0 hc1 hc2 hc3 hM hgef hf hsz
      go_loopw [8] (fun v8 wq => ∃ (k : Nat) (M : List (List Nat)),k ≤ p.len ∧ v8 = .int .i64 k ∧ Q.Closing (Q.calls p) p.len k 0 0 M ∧ Mat wq w1.heap.size 76 3 u4 p.len gs M ∧ Below w1.heap.size w1 wq) (fun v8 _ => p.len - (intOf v8).toNat)
      case atStart => exact ⟨0,M,by omega,rfl,HClose.out,HMat0.out,HBL0.out⟩
      case round =>
        clear HClose HMat0 HBL0
        obtain ⟨k,M1,hk,rfl,hcl,hmat,hbl⟩:=hrel
        have HCl:=kp hcl;have HMat:=kp hmat;have HBL:=kp hbl
        clear hcl hmat hbl
        by_cases hkn : k < p.len
        · go_wp2
          go_loopw [9] (fun v9 wq => ∃ (a : Nat) (M : List (List Nat)),a ≤ p.len ∧ v9 = .int .i64 a ∧ Q.Closing (Q.calls p) p.len k a 0 M ∧ Mat wq w1.heap.size 76 3 u4 p.len gs M ∧ Below w1.heap.size w1 wq) (fun v9 _ => p.len - (intOf v9).toNat)
          case atStart => exact ⟨0,M1,by omega,rfl,HCl.out,HMat.out,HBL.out⟩
          case round =>
            clear HCl HMat HBL
            obtain ⟨a,M2,ha,rfl,hcl,hmat,hbl⟩:=hrel
            have HCl:=kp hcl;have HMat:=kp hmat;have HBL:=kp hbl
            clear hcl hmat hbl
            by_cases han : a < p.len
            · go_wp2
              go_loopw [10] (fun v10 wq => ∃ (b : Nat) (M : List (List Nat)),b ≤ p.len ∧ v10 = .int .i64 b ∧ Q.Closing (Q.calls p) p.len k a b M ∧ Mat wq w1.heap.size 76 3 u4 p.len gs M ∧ Below w1.heap.size w1 wq) (fun v10 _ => p.len - (intOf v10).toNat)
              case atStart => exact ⟨0,M2,by omega,rfl,HCl.out,HMat.out,HBL.out⟩
              case round =>
                clear HCl HMat HBL
                obtain ⟨b,M3,hb,rfl,hcl,hmat,hbl⟩:=hrel
                have HCl:=kp hcl;have HMat:=kp hmat;have HBL:=kp hbl
                have hM3:=hcl.sq.1
                obtain ⟨ad,ga,cap,ra,hv,had,hga,hra,hral,hca,hka,hla,hna,hcp,hcm⟩:=hmat.get (a:=a) (by omega)
                obtain ⟨ad',gk,cap',rk,hv',had',hgk,hrk,hrkl,hck,hkk,hlk,hnk,_,_⟩:=hmat.get (a:=k) (by omega)
                clear hcl hmat hbl
                have hm1 : Q.mget M3 a k = ra.getD k 0:=by unfold Q.mget;rw [getD_at hra]
                have hm2 : Q.mget M3 k b = rk.getD b 0:=by unfold Q.mget;rw [getD_at hrk]
                by_cases hbn : b < p.len
                · have HV:=kp hv
                  rw [hv] at hv' ⊢
                  injection hv' with e1 e2 e3
                  cases e1
                  subst e3
                  rw [hM3] at HV ⊢
                  have hcapm : cap ≤ 9223372036854775807:=by unfold maxLen at hcm;omega
                  have hcp2 : p.len ≤ cap:=by omega
                  clear hcm hcp hv e2
                  obtain ⟨x,hx⟩ : ∃ x,ra[k]? = some x:=⟨_,List.getElem?_eq_getElem (by omega)⟩
                  obtain ⟨y,hy⟩ : ∃ y,rk[b]? = some y:=⟨_,List.getElem?_eq_getElem (by omega)⟩
                  rw [getD_at hx] at hm1
                  rw [getD_at hy] at hm2
                  have hcx:=hka.cell k
                  have hcy:=hkk.cell b
                  have hcz:=hka.cell b
                  have hfz:=hka.frozen b
                  obtain ⟨z,hz⟩ : ∃ z,ra[b]? = some z:=⟨_,List.getElem?_eq_getElem (by omega)⟩
                  rw [List.getElem?_map,hx,Option.map_some,lG] at hcx
                  rw [List.getElem?_map,hy,Option.map_some,lG] at hcy
                  rw [List.getElem?_map,hz,Option.map_some,lG] at hcz
                  have HM1:=kp hm1;have HM2:=kp hm2;have HGa:=kp hga
                  clear hm1 hm2 hx hy hz hka hkk hga hgk hra hrk had had' hna hnk hlk
                  by_cases hx1 : x = 1
                  · subst hx1
                    by_cases hy1 : y = 1
                    · subst hy1
                      have HNext:=kp (HCl.out.set hkn han hbn HM1.out HM2.out)
                      go_wp2
                      go_roundw
                      case rel => exact ⟨b + 1,Q.mset M3 a b,by omega,by go_num,HNext.out,by have h:=HMat.out.set (b:=b) HGa.out;rw [HV.out] at h;exact h,HBL.out.setCell hla _⟩
                      case measure => simp [intOf];omega
                    · have hy0 : ((y : Int) == 1) = false:=by simp;omega
                      have HNext:=kp (HCl.out.skip hkn fun h => hy1 (by rw [← HM2.out];exact h.2))
                      clear hy1
                      go_wp2
                      go_roundw
                      case rel => exact ⟨b + 1,M3,by omega,by go_num,HNext.out,by have h:=HMat.out;rw [HV.out] at h;exact h,HBL.out⟩
                      case measure => simp [intOf];omega
                  · have hx0 : ((x : Int) == 1) = false:=by simp;omega
                    have HNext:=kp (HCl.out.skip hkn fun h => hx1 (by rw [← HM1.out];exact h.1))
                    clear hx1
                    go_wp2
                    go_roundw
                    case rel => exact ⟨b + 1,M3,by omega,by go_num,HNext.out,by have h:=HMat.out;rw [HV.out] at h;exact h,HBL.out⟩
                    case measure => simp [intOf];omega
                · have hbe : p.len = b:=by omega
                  have HNext : Kept (Q.Closing (Q.calls p) p.len k (a + 1) 0 M3):=kp (Q.Closing.line (by have h:=HCl.out;rw [← hbe] at h;exact h))
                  have hge : p.len ≤ b:=by omega
                  clear hbe hbn hv hv' hcp hcm hca hck hka hkk
                  go_wp2
                  go_roundw
                  case rel => exact ⟨a + 1,M3,by omega,by go_num,HNext.out,HMat.out,HBL.out⟩
                  case measure => simp [intOf];omega
            · have hae : p.len = a:=by omega
              have HNext : Kept (Q.Closing (Q.calls p) p.len (k + 1) 0 0 M2):=kp (Q.Closing.round (by have h:=HCl.out;rw [← hae] at h;exact h))
              have hge : p.len ≤ a:=by omega
              clear hae han
              go_wp2
              go_roundw
              case rel => exact ⟨k + 1,M2,by omega,by go_num,HNext.out,HMat.out,HBL.out⟩
              case measure => simp [intOf];omega
        · have hke : p.len = k:=by omega
          have HEnd : Kept (Q.Closing (Q.calls p) p.len p.len 0 0 M1):=kp (by have h:=HCl.out;rw [← hke] at h;exact h)
          have hge : p.len ≤ k:=by omega
          clear hke hkn
          go_wp2
          go_ret
          exact ⟨_,gs,M1,rfl,HMat.out.less hs1,HEnd.out.sq,HEnd.out.end_,HW1.out.trans (HBL.out.mono hs1)⟩
end Go.Proofs.YtoekiejipdabmaaDoor
