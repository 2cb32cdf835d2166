/- ProgRef4, CheckMath, RelMath, Tail, Still. -/
import Derived.Test.YtnaomfmmkhgbhaaPk1
import Derived.Test.YtnaomfmmkhgbhaaPk2
import Derived.StillTailTactics
namespace Go.Proofs.Ytnaomfmmkhgbhaa
open Go.RowKit
theorem YH : (Try.prog.info? 73).map (fun i => (i.zero,i.size,i.bytes)) = some (some (.slice none 0 0),1,24):=by kernel_rfl
theorem getD_at {α : Type} {l : List α} {k : Nat} {x d : α} (h : l[k]? = some x) : l.getD k d = x:=by rw [List.getD_eq_getElem?_getD,h];rfl
theorem uC (l : List Nd) (i : Nat) (x : Nd) (h : l[i]? = some x) (y : Nat) : Q.callsTo (l.take (i + 1)) y ↔ Q.callsTo (l.take i) y ∨ (x.kind = 7 ∧ x.arg = (y : Int)):=by
  unfold Q.callsTo
  rw [List.take_add_one,h]
  constructor
  · rintro ⟨nd,hnd,h1⟩
    rcases List.mem_append.1 hnd with hm | hm
    · exact .inl ⟨nd,hm,h1⟩
    · rw [Option.toList_some,List.mem_singleton] at hm
      subst hm
      exact .inr h1
  · rintro (⟨nd,hnd,h1⟩ | h1)
    · exact ⟨nd,List.mem_append.2 (.inl hnd),h1⟩
    · exact ⟨x,List.mem_append.2 (.inr (by simp)),h1⟩
theorem mget_snoc (M : List (List Nat)) (r : List Nat) (x y : Nat) : Q.mget (M ++ [r]) x y = if x < M.length then Q.mget M x y else if x = M.length then r.getD y 0 else 0:=by
  unfold Q.mget
  by_cases h1 : x < M.length
  · rw [if_pos h1,List.getD_eq_getElem?_getD (l:=M ++ [r]),List.getElem?_append_left h1,← List.getD_eq_getElem?_getD]
  · rw [if_neg h1]
    by_cases h2 : x = M.length
    · rw [if_pos h2,List.getD_eq_getElem?_getD (l:=M ++ [r]),List.getElem?_append_right (by omega),h2,Nat.sub_self]
      rfl
    · rw [if_neg h2,List.getD_eq_getElem?_getD (l:=M ++ [r]),List.getElem?_eq_none (by simp;omega)]
      rfl
theorem set_one (r : List Nat) (k y : Nat) (hk : k < r.length) : (r.set k 1).getD y 0 = 1 ↔ r.getD y 0 = 1 ∨ k = y:=by
  by_cases h : k = y
  · subst h
    rw [List.getD_eq_getElem?_getD,List.getElem?_set_self hk]
    simp
  · rw [List.getD_eq_getElem?_getD,List.getElem?_set_ne h,← List.getD_eq_getElem?_getD]
    simp [h]
set_option maxRecDepth 1000000 in
set_option maxHeartbeats 4000000 in
theorem ref_calls (B : Nat) (p : Pg) (w : World) (hp : p.Ok w B) (hB : B ≤ w.heap.size) (hfit : Q.CallsFit p) (h16 : p.len ≤ 1000) :
    Calls Try.prog 25 #[pgA p] w fun e w' => ∃ v gs M,e = .returned v ∧ Mat w' w.heap.size 73 3 v p.len gs M ∧ Q.Square p.len M ∧ (∀ x y,x < p.len → y < p.len → (Q.mget M x y = 1 ↔ Q.Reach (Q.calls p) p.len x y)) ∧ Below w.heap.size w w':=by
  have HP:=kp hp;have HFit:=kp hfit
  have hlen:=hp.row.len
  have HLen:=kp hlen
  have hlc:=hp.lc;have hcm:=hp.cm
  unfold maxLen at hcm
  have hcm9 : p.cap ≤ 9223372036854775807:=by omega
  clear hp hfit hlen hcm
  rw [jI]
  go_enter Try.func25,Try.ntmps25
  go_wp2_with ((with_reducible refine j2 rfl 24 (.tmp 0) rfl (pgC p) rfl ?_);intro g1 w1 hg1 hk1 hw1;have HK1:=kp hk1;obtain ⟨hc0,hc1,hc2,hc3⟩:=jE hk1;have HW1:=kp hw1;have hs1:=hw1.size;clear hg1 hk1 hw1)
  have HP1:=kp (HP.out.below (HW1.out.mono hB))
  have hB1 : B ≤ w1.heap.size:=by omega
  clear hc0 hc1 hc2 hc3
  go_loopw [4,5] (fun v4 v5 wr => ∃ (f : Nat) (gs : List Nat) (M : List (List Nat)),f ≤ p.len ∧ v5 = .int .i64 f ∧ M.length = f ∧ (∀ r ∈ M,r.length = p.len) ∧ (∀ x y,x < f → y < p.len → (Q.mget M x y = 1 ↔ Q.calls p x y)) ∧ Mat wr w1.heap.size 73 3 v4 p.len gs M ∧ Below w1.heap.size w1 wr) (fun _ v5 _ => p.len - (intOf v5).toNat)
  case atStart => exact ⟨0,[],[],by omega,rfl,rfl,by simp,fun x y hx => by omega,Mat.nil _ _ _ _ _,Below.refl _ _⟩
  case round =>
    obtain ⟨f,gs,M,hf,rfl,hM,hrows,hent,hmat,hbl⟩:=hrel
    have HRows:=kp hrows;have HEnt:=kp hent;have HMat:=kp hmat;have HBL:=kp hbl
    have hsz:=hbl.size
    obtain ⟨hc0,hc1,hc2,hc3⟩:=jE (HK1.out.below hbl HK1.out.lt)
    have HPr:=kp (HP1.out.below (hbl.mono hB1))
    clear hrows hent hmat hbl
    by_cases hlt : f < p.len
    · obtain ⟨ad,fn,e1,hab,hx,hok,hcf⟩:=HPr.out.fn hlt
      rw [e1]
      have HE1:=kp e1
      clear e1
      have hfc:=hok.lc;have hfm:=hok.cm
      unfold maxLen at hfm
      have hfm9 : fn.cap ≤ 9223372036854775807:=by omega
      have HX:=kp hx
      have hfl:=hok.nodes.1.len
      have HFl:=kp hfl
      have HFitF : Kept (∀ nd ∈ fn.nodes,nd.kind = 7 → 0 ≤ nd.arg ∧ nd.arg < p.len):=kp (HFit.out fn (List.mem_of_getElem? hx))
      clear hx hok hfm hcf hfl hc0 hc1 hc2 hc3
      go_wp2_with ((with_reducible show Sl 20);go_must (refine J4 rfl 73 (.tmp 19) (.tmp 19) rfl 3 (.int .i64 0) 8 Try.underlying73 int_info rfl .i64 .i64 p.len p.len rfl rfl (by omega) (by omega) (by omega) ?_);intro g2 w2 hg2 hk2 hw2;have HK2 : Kept (Blk w2 g2 3 ((List.replicate p.len 0).map natV)):=kp (by rw [List.map_replicate];exact hk2);have HW2:=kp hw2;have HG2:=kp hg2;clear hg2 hk2 hw2)
      have HFr:=kp (HMat.out.fresh HG2.out)
      have hg2w : w1.heap.size ≤ g2:=Nat.le_trans hsz HG2.out
      have hgsl : gs.length = f:=by rw [HMat.out.len,hM]
      go_loopw [7] (fun v7 wq => ∃ (i : Nat) (r : List Nat),i ≤ fn.len ∧ v7 = .int .i64 i ∧ r.length = p.len ∧ (∀ y,y < p.len → (r.getD y 0 = 1 ↔ Q.callsTo (fn.nodes.take i) y)) ∧ Blk wq g2 3 (r.map natV) ∧ Below wr.heap.size wr wq) (fun v7 _ => fn.len - (intOf v7).toNat)
      case atStart => exact ⟨0,List.replicate p.len 0,by omega,rfl,List.length_replicate,fun y hy => by
        rw [List.getD_eq_getElem?_getD,List.getElem?_replicate,if_pos hy]
        simp [Q.callsTo],HK2.out,HW2.out⟩
      case round =>
        obtain ⟨i,r,hi,rfl,hr,hcalls,hk,hbq⟩:=hrel
        have HCalls:=kp hcalls;have HK:=kp hk;have HBq:=kp hbq
        have HB1q:=kp (HBL.out.trans (hbq.mono hsz))
        obtain ⟨hc0,hc1,hc2,hc3⟩:=jE (HK1.out.below HB1q.out HK1.out.lt)
        rw [HE1.out] at hc3
        have HPq:=kp (HPr.out.below (hbq.mono (by omega)))
        obtain ⟨ad',fn',e1',_,hx',hok,hcf⟩:=HPq.out.fn hlt
        rw [HE1.out] at e1'
        cases e1'
        rw [HX.out] at hx'
        cases hx'
        clear hcalls hk hbq
        by_cases hli : i < fn.len
        · obtain ⟨bd,x,e3,hbb,hy,hxok,hn0,hn1,hn2,hn3⟩:=hok.nodes.get hli
          rw [e3] at hcf
          have hsn:=uC fn.nodes i x hy
          have HSn:=kp hsn
          by_cases h7 : x.kind = 7
          · have hz : (x.kind == 7) = true:=by simpa using h7
            obtain ⟨ha0,han⟩:=HFitF.out x (List.mem_of_getElem? hy) h7
            obtain ⟨k,hk⟩ : ∃ k : Nat,x.arg = (k : Int):=⟨x.arg.toNat,by omega⟩
            have hkn : k < p.len:=by omega
            rw [hk] at hn1
            have HN : Kept (∀ y,y < p.len → ((r.set k 1).getD y 0 = 1 ↔ Q.callsTo (fn.nodes.take (i + 1)) y)):=kp fun y hy' => by
              rw [set_one r k y (by omega),HSn.out y,HCalls.out y hy',hk]
              constructor
              · rintro (h | h)
                · exact .inl h
                · exact .inr ⟨h7,by omega⟩
              · rintro (h | ⟨_,h⟩)
                · exact .inl h
                · exact .inr (by omega)
            have hcr:=HK.out.cell k
            have hfr:=HK.out.frozen k
            obtain ⟨y0,hy0⟩ : ∃ y0,(r.map natV)[k]? = some y0:=⟨_,List.getElem?_eq_getElem (by rw [List.length_map];omega)⟩
            rw [hy0] at hcr
            clear h7 hsn hy hxok hok hk hy0 ha0 han
            go_wp2
            go_roundw
            case rel => exact ⟨i + 1,r.set k 1,by omega,by go_num,by rw [List.length_set];exact hr,HN.out,by rw [List.map_set];exact HK.out.set k (natV 1),HBq.out.setCell HG2.out _⟩
            case measure => simp [intOf];omega
          · have hz : (x.kind == 7) = false:=by simpa using h7
            have HN : Kept (∀ y,y < p.len → (r.getD y 0 = 1 ↔ Q.callsTo (fn.nodes.take (i + 1)) y)):=kp fun y hy' => by
              rw [HSn.out y,HCalls.out y hy']
              simp [h7]
            clear h7 hsn hy hxok hok
            go_wp2
            go_roundw
            case rel => exact ⟨i + 1,r,by omega,by go_num,hr,HN.out,HK.out,HBq.out⟩
            case measure => simp [intOf];omega
        · have HNew : Kept (∀ x y,x < f + 1 → y < p.len → (Q.mget (M ++ [r]) x y = 1 ↔ Q.calls p x y)):=kp fun x y hx hy => by
            rw [mget_snoc]
            by_cases hxf : x < f
            · rw [if_pos (by omega)]
              exact HEnt.out x y hxf hy
            · have hxe : x = f:=by omega
              subst hxe
              rw [if_neg (by omega),if_pos hM.symm,HCalls.out y hy,List.take_of_length_le (by rw [HFl.out];omega)]
              unfold Q.callsTo Q.calls
              constructor
              · rintro ⟨nd,h1,h2⟩
                exact ⟨fn,HX.out,nd,h1,h2⟩
              · rintro ⟨f',h1,nd,h2,h3⟩
                rw [HX.out] at h1
                cases h1
                exact ⟨nd,h2,h3⟩
          have HRw2 : Kept (∀ q ∈ M ++ [r],q.length = p.len):=kp fun q hq => by
            rcases List.mem_append.1 hq with hq | hq
            · exact HRows.out q hq
            · rw [List.mem_singleton] at hq;rw [hq];exact hr
          have HMat2:=kp (HMat.out.below HBq.out)
          have hszq:=HB1q.out.size
          have hgel : fn.len ≤ i:=by omega
          clear hli hok
          go_wp2_with (at_builtin;go_must (refine q8 rfl (.tmp 52) (.tmp 54) 71 rfl w1.heap.size 73 _ _ Try.underlying71 YH rfl _ _ _ _ rfl HMat2.out.own _ 1 rfl rfl rfl (by simp [maxLen,hgsl];omega) (by simp [hgsl];omega) hszq ?_);intro v5 w5 hown5 hg5;have HO5:=kp hown5;clear hown5;have HG5:=kp hg5;clear hg5)
          go_roundw
          case rel => exact ⟨f + 1,gs ++ [g2],M ++ [r],by omega,by go_num,by simp [hM],HRw2.out,HNew.out,HMat2.out.snoc HO5.out HG5.out HK.out hr hg2w HFr.out,HG5.out.below HB1q.out HMat2.out.own hszq⟩
          case measure => simp [intOf];omega
    · have hfe : f = p.len:=by omega
      have HClose : Kept (Q.Closing (Q.calls p) p.len 0 0 0 M):=kp (Q.Closing.start ⟨by rw [hM,hfe],HRows.out⟩ fun x y hx hy => HEnt.out x y (by omega) hy)
      have hgef : p.len ≤ f:=by omega
      clear hlt hfe
      go_wp2
      have HMat0:=HMat;have HBL0:=HBL
      clear HMat HBL HEnt HRows HPr hc0 hc1 hc2 hc3 hM hgef hf hsz
      go_loopw [8] (fun v8 wq => ∃ (k : Nat) (M : List (List Nat)),k ≤ p.len ∧ v8 = .int .i64 k ∧ Q.Closing (Q.calls p) p.len k 0 0 M ∧ Mat wq w1.heap.size 73 3 u4 p.len gs M ∧ Below w1.heap.size w1 wq) (fun v8 _ => p.len - (intOf v8).toNat)
      case atStart => exact ⟨0,M,by omega,rfl,HClose.out,HMat0.out,HBL0.out⟩
      case round =>
        clear HClose HMat0 HBL0
        obtain ⟨k,M1,hk,rfl,hcl,hmat,hbl⟩:=hrel
        have HCl:=kp hcl;have HMat:=kp hmat;have HBL:=kp hbl
        clear hcl hmat hbl
        by_cases hkn : k < p.len
        · go_wp2
          go_loopw [9] (fun v9 wq => ∃ (a : Nat) (M : List (List Nat)),a ≤ p.len ∧ v9 = .int .i64 a ∧ Q.Closing (Q.calls p) p.len k a 0 M ∧ Mat wq w1.heap.size 73 3 u4 p.len gs M ∧ Below w1.heap.size w1 wq) (fun v9 _ => p.len - (intOf v9).toNat)
          case atStart => exact ⟨0,M1,by omega,rfl,HCl.out,HMat.out,HBL.out⟩
          case round =>
            clear HCl HMat HBL
            obtain ⟨a,M2,ha,rfl,hcl,hmat,hbl⟩:=hrel
            have HCl:=kp hcl;have HMat:=kp hmat;have HBL:=kp hbl
            clear hcl hmat hbl
            by_cases han : a < p.len
            · go_wp2
              go_loopw [10] (fun v10 wq => ∃ (b : Nat) (M : List (List Nat)),b ≤ p.len ∧ v10 = .int .i64 b ∧ Q.Closing (Q.calls p) p.len k a b M ∧ Mat wq w1.heap.size 73 3 u4 p.len gs M ∧ Below w1.heap.size w1 wq) (fun v10 _ => p.len - (intOf v10).toNat)
              case atStart => exact ⟨0,M2,by omega,rfl,HCl.out,HMat.out,HBL.out⟩
              case round =>
                clear HCl HMat HBL
                obtain ⟨b,M3,hb,rfl,hcl,hmat,hbl⟩:=hrel
                have HCl:=kp hcl;have HMat:=kp hmat;have HBL:=kp hbl
                have hM3:=hcl.sq.1
                obtain ⟨ad,ga,cap,ra,hv,had,hga,hra,hral,hca,hka,hla,hna,hcp,hcm⟩:=hmat.get (a:=a) (by omega)
                obtain ⟨ad',gk,cap',rk,hv',had',hgk,hrk,hrkl,hck,hkk,hlk,hnk,_,_⟩:=hmat.get (a:=k) (by omega)
                clear hcl hmat hbl
                have hm1 : Q.mget M3 a k = ra.getD k 0:=by unfold Q.mget;rw [getD_at hra]
                have hm2 : Q.mget M3 k b = rk.getD b 0:=by unfold Q.mget;rw [getD_at hrk]
                by_cases hbn : b < p.len
                · have HV:=kp hv
                  rw [hv] at hv' ⊢
                  injection hv' with e1 e2 e3
                  cases e1
                  subst e3
                  rw [hM3] at HV ⊢
                  have hcapm : cap ≤ 9223372036854775807:=by unfold maxLen at hcm;omega
                  have hcp2 : p.len ≤ cap:=by omega
                  clear hcm hcp hv e2
                  obtain ⟨x,hx⟩ : ∃ x,ra[k]? = some x:=⟨_,List.getElem?_eq_getElem (by omega)⟩
                  obtain ⟨y,hy⟩ : ∃ y,rk[b]? = some y:=⟨_,List.getElem?_eq_getElem (by omega)⟩
                  rw [getD_at hx] at hm1
                  rw [getD_at hy] at hm2
                  have hcx:=hka.cell k
                  have hcy:=hkk.cell b
                  have hcz:=hka.cell b
                  have hfz:=hka.frozen b
                  obtain ⟨z,hz⟩ : ∃ z,ra[b]? = some z:=⟨_,List.getElem?_eq_getElem (by omega)⟩
                  rw [List.getElem?_map,hx,Option.map_some,zI] at hcx
                  rw [List.getElem?_map,hy,Option.map_some,zI] at hcy
                  rw [List.getElem?_map,hz,Option.map_some,zI] at hcz
                  have HM1:=kp hm1;have HM2:=kp hm2;have HGa:=kp hga
                  clear hm1 hm2 hx hy hz hka hkk hga hgk hra hrk had had' hna hnk hlk
                  by_cases hx1 : x = 1
                  · subst hx1
                    by_cases hy1 : y = 1
                    · subst hy1
                      have HNext:=kp (HCl.out.set hkn han hbn HM1.out HM2.out)
                      go_wp2
                      go_roundw
                      case rel => exact ⟨b + 1,Q.mset M3 a b,by omega,by go_num,HNext.out,by have h:=HMat.out.set (b:=b) HGa.out;rw [HV.out] at h;exact h,HBL.out.setCell hla _⟩
                      case measure => simp [intOf];omega
                    · have hy0 : ((y : Int) == 1) = false:=by simp;omega
                      have HNext:=kp (HCl.out.skip hkn fun h => hy1 (by rw [← HM2.out];exact h.2))
                      clear hy1
                      go_wp2
                      go_roundw
                      case rel => exact ⟨b + 1,M3,by omega,by go_num,HNext.out,by have h:=HMat.out;rw [HV.out] at h;exact h,HBL.out⟩
                      case measure => simp [intOf];omega
                  · have hx0 : ((x : Int) == 1) = false:=by simp;omega
                    have HNext:=kp (HCl.out.skip hkn fun h => hx1 (by rw [← HM1.out];exact h.1))
                    clear hx1
                    go_wp2
                    go_roundw
                    case rel => exact ⟨b + 1,M3,by omega,by go_num,HNext.out,by have h:=HMat.out;rw [HV.out] at h;exact h,HBL.out⟩
                    case measure => simp [intOf];omega
                · have hbe : p.len = b:=by omega
                  have HNext : Kept (Q.Closing (Q.calls p) p.len k (a + 1) 0 M3):=kp (Q.Closing.line (by have h:=HCl.out;rw [← hbe] at h;exact h))
                  have hge : p.len ≤ b:=by omega
                  clear hbe hbn hv hv' hcp hcm hca hck hka hkk
                  go_wp2
                  go_roundw
                  case rel => exact ⟨a + 1,M3,by omega,by go_num,HNext.out,HMat.out,HBL.out⟩
                  case measure => simp [intOf];omega
            · have hae : p.len = a:=by omega
              have HNext : Kept (Q.Closing (Q.calls p) p.len (k + 1) 0 0 M2):=kp (Q.Closing.round (by have h:=HCl.out;rw [← hae] at h;exact h))
              have hge : p.len ≤ a:=by omega
              clear hae han
              go_wp2
              go_roundw
              case rel => exact ⟨k + 1,M2,by omega,by go_num,HNext.out,HMat.out,HBL.out⟩
              case measure => simp [intOf];omega
        · have hke : p.len = k:=by omega
          have HEnd : Kept (Q.Closing (Q.calls p) p.len p.len 0 0 M1):=kp (by have h:=HCl.out;rw [← hke] at h;exact h)
          have hge : p.len ≤ k:=by omega
          clear hke hkn
          go_wp2
          go_ret
          exact ⟨_,gs,M1,rfl,HMat.out.less hs1,HEnd.out.sq,HEnd.out.end_,HW1.out.trans (HBL.out.mono hs1)⟩
end Go.Proofs.Ytnaomfmmkhgbhaa
namespace Go.Proofs.Ytnaomfmmkhgbhaa.Q
open Classical in
noncomputable def firstIdx (P : Nat → Prop) : Nat → Option Nat
  | 0 => none
  | n + 1 => match firstIdx P n with
    | some i => some i
    | none => if P n then some n else none
theorem firstIdx_none {P : Nat → Prop} : ∀ n,(∀ i,i < n → ¬ P i) → firstIdx P n = none
  | 0,_ => rfl
  | n + 1,h => by
    have h1:=firstIdx_none n fun i hi => h i (by omega)
    have h2:=h n (by omega)
    simp only [firstIdx,h1,if_neg h2]
theorem qI {P : Nat → Prop} {i : Nat} (hP : P i) : ∀ n,i < n → (∀ j,j < i → ¬ P j) → firstIdx P n = some i
  | 0,hi,_ => by omega
  | n + 1,hi,h => by
    by_cases hin : i < n
    · have h1:=qI hP n hin h
      simp only [firstIdx,h1]
    · have e : i = n:=by omega
      subst e
      have h1:=firstIdx_none i h
      simp only [firstIdx,h1,if_pos hP]
def badNode (p : Pg) (fn : Fn) (i : Nat) : Prop:=∃ nd,fn.nodes[i]? = some nd ∧ may p.g p.l p.s p.len nd fn.nodes.length = false
noncomputable def fnFault (p : Pg) (fn : Fn) : Int × Nat :=
  if fn.nodes.length = 0 then (-1,1) else if 64 < fn.nodes.length then (-1,4) else match firstIdx (badNode p fn) fn.nodes.length with
    | some i => ((i : Int),3)
    | none => (0,0)
def badFn (p : Pg) (f : Nat) : Prop:=∃ fn,p.fns[f]? = some fn ∧ (fnFault p fn).2 ≠ 0
def roundAt (p : Pg) (f i : Nat) : Prop:=∃ fn nd,p.fns[f]? = some fn ∧ fn.nodes[i]? = some nd ∧ nd.kind = 7 ∧ ∃ k : Nat,nd.arg = (k : Int) ∧ k < p.fns.length ∧ (k = f ∨ Reach (calls p) p.fns.length k f)
noncomputable def roundIn (p : Pg) (f : Nat) : Option Nat:=firstIdx (roundAt p f) 64
def badRound (p : Pg) (f : Nat) : Prop:=∃ i,roundAt p f i
noncomputable def check (p : Pg) : Int × Int × Nat :=
  if p.g < 0 ∨ p.l < 0 ∨ p.s < 0 ∨ p.fns.length = 0 then (-1,-1,1)
  else if 16 < p.g ∨ 16 < p.l ∨ 8 < p.s ∨ 16 < p.fns.length then (-1,-1,4)
  else match firstIdx (badFn p) p.fns.length with
    | some f => ((f : Int),(fnFault p (p.fns.getD f default)).1,(fnFault p (p.fns.getD f default)).2)
    | none => match firstIdx (badRound p) p.fns.length with
      | some f => ((f : Int),(((roundIn p f).getD 0 : Nat) : Int),8)
      | none => (0,0,0)
theorem fault_empty (p : Pg) (fn : Fn) (h : fn.nodes.length = 0) : fnFault p fn = (-1,1):=by unfold fnFault;rw [if_pos h]
theorem fault_long (p : Pg) (fn : Fn) (h : 64 < fn.nodes.length) : fnFault p fn = (-1,4):=by unfold fnFault;rw [if_neg (by omega),if_pos h]
theorem fault_node (p : Pg) (fn : Fn) (i : Nat) (h0 : fn.nodes.length ≠ 0) (h64 : fn.nodes.length ≤ 64) (hi : badNode p fn i) (hlt : i < fn.nodes.length) (hp : ∀ j,j < i → ¬ badNode p fn j) : fnFault p fn = ((i : Int),3):=by
  unfold fnFault
  rw [if_neg h0,if_neg (by omega),qI hi _ hlt hp]
theorem fault_none (p : Pg) (fn : Fn) (h0 : fn.nodes.length ≠ 0) (h64 : fn.nodes.length ≤ 64) (hp : ∀ j,j < fn.nodes.length → ¬ badNode p fn j) : fnFault p fn = (0,0):=by
  unfold fnFault
  rw [if_neg h0,if_neg (by omega),firstIdx_none _ hp]
structure Counts (p : Pg) : Prop where
  g : 0 ≤ p.g ∧ p.g ≤ 16
  l : 0 ≤ p.l ∧ p.l ≤ 16
  s : 0 ≤ p.s ∧ p.s ≤ 8
  f : 0 < p.fns.length ∧ p.fns.length ≤ 16
theorem check_fn {p : Pg} (hc : Counts p) {f : Nat} {fn : Fn} (hf : p.fns[f]? = some fn) (hb : (fnFault p fn).2 ≠ 0) (hp : ∀ j,j < f → ¬ badFn p j) : check p = ((f : Int),(fnFault p fn).1,(fnFault p fn).2):=by
  have hlt : f < p.fns.length:=(List.getElem?_eq_some_iff.1 hf).1
  unfold check
  rw [if_neg (by have:=hc.g;have:=hc.l;have:=hc.s;have:=hc.f;omega),if_neg (by have:=hc.g;have:=hc.l;have:=hc.s;have:=hc.f;omega),qI ⟨fn,hf,hb⟩ _ hlt hp]
  have e : p.fns.getD f default = fn:=by rw [List.getD_eq_getElem?_getD,hf];rfl
  simp only [e]
theorem check_round {p : Pg} (hc : Counts p) (hn : ∀ j,j < p.fns.length → ¬ badFn p j) {f i : Nat} (hr : roundAt p f i) (hi : i < 64) (hlt : f < p.fns.length) (hp : ∀ j,j < f → ¬ badRound p j) (hpi : ∀ j,j < i → ¬ roundAt p f j) : check p = ((f : Int),(i : Int),8):=by
  unfold check
  rw [if_neg (by have:=hc.g;have:=hc.l;have:=hc.s;have:=hc.f;omega),if_neg (by have:=hc.g;have:=hc.l;have:=hc.s;have:=hc.f;omega),firstIdx_none _ hn]
  simp only
  rw [qI ⟨i,hr⟩ _ hlt hp]
  have e : roundIn p f = some i:=qI hr _ hi hpi
  simp only [e,Option.getD_some]
theorem check_fine {p : Pg} (hc : Counts p) (hn : ∀ j,j < p.fns.length → ¬ badFn p j) (hp : ∀ j,j < p.fns.length → ¬ badRound p j) : check p = (0,0,0):=by
  unfold check
  rw [if_neg (by have:=hc.g;have:=hc.l;have:=hc.s;have:=hc.f;omega),if_neg (by have:=hc.g;have:=hc.l;have:=hc.s;have:=hc.f;omega),firstIdx_none _ hn]
  simp only
  rw [firstIdx_none _ hp]
theorem fine_fn {p : Pg} {f : Nat} {fn : Fn} (hf : p.fns[f]? = some fn) (h : ¬ badFn p f) : 0 < fn.nodes.length ∧ fn.nodes.length ≤ 64 ∧ ∀ (i : Nat) (nd : Nd),fn.nodes[i]? = some nd → may p.g p.l p.s p.len nd fn.nodes.length = true:=by
  have h2 : (fnFault p fn).2 = 0:=by
    cases e : (fnFault p fn).2 with
    | zero => rfl
    | succ k => exact absurd ⟨fn,hf,by omega⟩ h
  by_cases h0 : fn.nodes.length = 0
  · rw [fault_empty p fn h0] at h2;cases h2
  · by_cases h64 : 64 < fn.nodes.length
    · rw [fault_long p fn h64] at h2;cases h2
    · refine ⟨by omega,by omega,fun i nd hnd => ?_⟩
      cases hm : may p.g p.l p.s p.len nd fn.nodes.length with
      | true => rfl
      | false =>
        exfalso
        have hb : badNode p fn i:=⟨nd,hnd,hm⟩
        have hil : i < fn.nodes.length:=(List.getElem?_eq_some_iff.1 hnd).1
        -- some first one
        have hex : ∃ i,i < fn.nodes.length ∧ badNode p fn i ∧ ∀ j,j < i → ¬ badNode p fn j:=by
          have : ∀ n,(∃ i,i ≤ n ∧ badNode p fn i) → ∃ i,i ≤ n ∧ badNode p fn i ∧ ∀ j,j < i → ¬ badNode p fn j:=by
            intro n
            induction n with
            | zero => rintro ⟨i,hi,hb⟩;exact ⟨i,hi,hb,fun j hj => by omega⟩
            | succ n ih =>
              rintro ⟨i,hi,hb⟩
              by_cases h : ∃ j,j ≤ n ∧ badNode p fn j
              · obtain ⟨j,h1,h2⟩:=ih h
                exact ⟨j,by omega,h2⟩
              · exact ⟨i,hi,hb,fun j hj hbj => h ⟨j,by omega,hbj⟩⟩
          obtain ⟨j,h1,h2⟩:=this i ⟨i,Nat.le_refl _,hb⟩
          exact ⟨j,by omega,h2⟩
        obtain ⟨j,h1,h3,h4⟩:=hex
        rw [fault_node p fn j h0 (by omega) h3 h1 h4] at h2
        cases h2
end Go.Proofs.Ytnaomfmmkhgbhaa.Q
namespace Go.Proofs.Ytnaomfmmkhgbhaa.Q
structure Clo (R : Nat → Nat → Prop) (n k a b : Nat) (G : Nat → Nat → Prop) : Prop where
  sound : ∀ x y,x < n → y < n → G x y → Reach R n x y
  base : ∀ x y,x < n → y < n → Via R k x y → G x y
  done : ∀ x y,x < n → y < n → (x < a ∨ (x = a ∧ y < b)) → Via R k x k → Via R k k y → G x y
section
variable {R : Nat → Nat → Prop} {n k a b : Nat} {G G' : Nat → Nat → Prop}
theorem Clo.step (h : Clo R n k a b G) (hk : k < n) (ha : a < n) (hb : b < n) (hG : ∀ x y,x < n → y < n → (G' x y ↔ G x y ∨ (x = a ∧ y = b ∧ G a k ∧ G k b))) : Clo R n k a (b + 1) G':=by
  refine ⟨fun x y hx hy e => ?_,fun x y hx hy v => (hG x y hx hy).2 (.inl (h.base x y hx hy v)),fun x y hx hy hlt v1 v2 => ?_⟩
  · rcases (hG x y hx hy).1 e with e | ⟨rfl,rfl,g1,g2⟩
    · exact h.sound x y hx hy e
    · exact (h.sound x k hx hk g1).trans hk (h.sound k y hk hy g2)
  · by_cases e : x = a ∧ y = b
    · obtain ⟨rfl,rfl⟩:=e
      exact (hG x y hx hy).2 (.inr ⟨rfl,rfl,h.base x k hx hk v1,h.base k y hk hy v2⟩)
    · exact (hG x y hx hy).2 (.inl (h.done x y hx hy (by omega) v1 v2))
theorem Clo.line (h : Clo R n k a n G) : Clo R n k (a + 1) 0 G :=
  ⟨h.sound,h.base,fun x y hx hy _ v1 v2 => h.done x y hx hy (by omega) v1 v2⟩
theorem Clo.round (h : Clo R n k n 0 G) : Clo R n (k + 1) 0 0 G :=
  ⟨h.sound,fun x y hx hy v => by
    rcases v with v | ⟨v1,v2⟩
    · exact h.base x y hx hy v
    · exact h.done x y hx hy (by omega) v1 v2,fun x y _ _ hlt _ _ => by omega⟩
theorem Clo.end_ (h : Clo R n n 0 0 G) (x y : Nat) (hx : x < n) (hy : y < n) : G x y ↔ Reach R n x y :=
  ⟨h.sound x y hx hy,fun r => h.base x y hx hy (LT r)⟩
theorem Clo.start (h : ∀ x y,x < n → y < n → (G x y ↔ R x y)) : Clo R n 0 0 0 G :=
  ⟨fun x y hx hy e => .one ((h x y hx hy).1 e),fun x y hx hy v => (h x y hx hy).2 v,fun x y _ _ hlt _ _ => by omega⟩
end
def ent (L : List Bool) (x y : Nat) : Prop:=L.getD (x * 16 + y) false = true
theorem ent_set {L : List Bool} (hL : L.length = 256) {a b : Nat} (ha : a < 16) (hb : b < 16) (v : Bool) (x y : Nat) (_hx : x < 16) (hy : y < 16) : ent (L.set (a * 16 + b) v) x y ↔ if x = a ∧ y = b then v = true else ent L x y:=by
  unfold ent
  by_cases e : x = a ∧ y = b
  · obtain ⟨rfl,rfl⟩:=e
    rw [if_pos ⟨rfl,rfl⟩,List.getD_eq_getElem?_getD,List.getElem?_set_self (by omega)]
    simp
  · rw [if_neg e,List.getD_eq_getElem?_getD,List.getElem?_set_ne (by omega),← List.getD_eq_getElem?_getD]
theorem ent_zero (x y : Nat) : ¬ ent (List.replicate 256 false) x y:=by
  unfold ent
  rw [List.getD_eq_getElem?_getD,List.getElem?_replicate]
  split <;> simp
theorem ent_at {L : List Bool} (hL : L.length = 256) {x y : Nat} (hx : x < 16) (hy : y < 16) : ∃ v,L[x * 16 + y]? = some v ∧ (ent L x y ↔ v = true):=by
  have h : x * 16 + y < L.length:=by omega
  refine ⟨L[x * 16 + y],List.getElem?_eq_getElem h,?_⟩
  unfold ent
  rw [List.getD_eq_getElem?_getD,List.getElem?_eq_getElem h]
  rfl
theorem reach_less {R : Nat → Nat → Prop} {n m : Nat} (hR : ∀ x y,R x y → y < m) {x y : Nat} (h : Reach R n x y) : Reach R m x y:=by
  induction h with
  | one h => exact .one h
  | more h _ _ ih => exact .more h (hR _ _ h) ih
theorem reach_more {R : Nat → Nat → Prop} {n m : Nat} (hnm : m ≤ n) {x y : Nat} (h : Reach R m x y) : Reach R n x y:=by
  induction h with
  | one h => exact .one h
  | more h hj _ ih => exact .more h (by omega) ih
theorem calls_lt {p : Pg} (h : CallsFit p) (x y : Nat) (hc : calls p x y) : y < p.len:=by
  obtain ⟨f,hf,nd,hnd,h7,ha⟩:=hc
  have:=h f (List.mem_of_getElem? hf) nd hnd h7
  omega
end Go.Proofs.Ytnaomfmmkhgbhaa.Q
namespace Go.Proofs.Ytnaomfmmkhgbhaa
open Go.RowKit
def maskOf (acc : List Nat) (o : Oper) : Nat:=(waits o).foldl (fun m j => m ||| (2 ^ j ||| acc.getD j 0)) 0
def masks (l : List Oper) : List Nat:=l.foldl (fun acc o => acc ++ [maskOf acc o]) []
theorem masks_snoc (l : List Oper) (o : Oper) : masks (l ++ [o]) = masks l ++ [maskOf (masks l) o]:=by simp [masks]
theorem uL (l : List Oper) : (masks l).length = l.length:=by
  have h : ∀ (l : List Oper) (acc : List Nat),(l.foldl (fun acc o => acc ++ [maskOf acc o]) acc).length = acc.length + l.length:=by
    intro l
    induction l with
    | nil => intro acc;rfl
    | cons o r ih => intro acc;rw [List.foldl_cons,ih];simp;omega
  have:=h l []
  simpa [masks] using this
theorem L8 (l : List Oper) (i : Nat) (o : Oper) (h : l[i]? = some o) : (masks l).getD i 0 = maskOf (masks (l.take i)) o:=by
  have hi:=(List.getElem?_eq_some_iff.1 h).1
  have e : l = l.take i ++ [o] ++ l.drop (i + 1):=by
    have h1 : l.take (i + 1) = l.take i ++ [o]:=by rw [List.take_add_one,h];rfl
    rw [← h1,List.take_append_drop]
  have hpre : ∀ (r : List Oper) (a : List Oper),(masks (a ++ r)).take a.length = masks a:=by
    intro r a
    have hx : ∀ (r : List Oper) (acc : List Nat),∃ t,r.foldl (fun acc o => acc ++ [maskOf acc o]) acc = acc ++ t:=by
      intro r
      induction r with
      | nil => intro acc;exact ⟨[],by simp⟩
      | cons x r ih =>
        intro acc
        obtain ⟨t,ht⟩:=ih (acc ++ [maskOf acc x])
        exact ⟨[maskOf acc x] ++ t,by rw [List.foldl_cons,ht,List.append_assoc]⟩
    obtain ⟨t,ht⟩:=hx r (masks a)
    have h3 : masks (a ++ r) = masks a ++ t:=by unfold masks at ht ⊢;rw [List.foldl_append];exact ht
    rw [h3,List.take_left' (uL a)]
  have hl : (l.take i).length = i:=by rw [List.length_take];omega
  have h2:=hpre (l.drop (i + 1)) (l.take i ++ [o])
  rw [← e,List.length_append,hl,masks_snoc] at h2
  have h3 : (masks l)[i]? = ((masks l).take (i + 1))[i]?:=by rw [List.getElem?_take,if_pos (by omega)]
  rw [List.getD_eq_getElem?_getD,h3]
  show (((masks l).take (i + [o].length))[i]?).getD 0 = _
  rw [h2,List.getElem?_append_right (by rw [uL,hl];exact Nat.le_refl _),uL,hl,Nat.sub_self]
  rfl
theorem fold_or (f : Nat → Nat) (j : Nat) : ∀ (l : List Nat) (m : Nat),(l.foldl (fun m k => m ||| f k) m).testBit j = true → m.testBit j = true ∨ ∃ k ∈ l,(f k).testBit j = true
  | [],m,h => .inl h
  | k :: l,m,h => by
    rcases fold_or f j l _ h with h | ⟨k',hk,h⟩
    · rw [Nat.testBit_or,Bool.or_eq_true] at h
      rcases h with h | h
      · exact .inl h
      · exact .inr ⟨k,List.mem_cons_self,h⟩
    · exact .inr ⟨k',List.mem_cons_of_mem _ hk,h⟩
theorem lV {l : List Oper} {listed : Array Bool} (hback : ∀ i o,l[i]? = some o → ∀ e ∈ o.after,Region.binds .any e = true → e.on < i)
    (hshut : ∀ j oj,l[j]? = some oj → listed.getD j false = true → ∀ e ∈ oj.after,Region.binds .any e = true → listed.getD e.on false = true) :
    ∀ i o,l[i]? = some o → (∀ e ∈ o.after,Region.binds .any e = true → listed.getD e.on false = true) → ∀ j,((masks l).getD i 0).testBit j = true → listed.getD j false = true:=by
  intro i
  induction i using Nat.strongRecOn with
  | _ i ih =>
    intro o ho hw j hj
    rw [L8 l i o ho] at hj
    rcases fold_or _ j _ _ hj with h | ⟨k,hk,h⟩
    · simp at h
    · obtain ⟨e,he,hb,hon⟩:=zQ.1 hk
      have hkl : listed.getD k false = true:=by rw [← hon];exact hw e he hb
      have hki : k < i:=by rw [← hon];exact hback i o ho e he hb
      rw [Nat.testBit_or,Bool.or_eq_true] at h
      rcases h with h | h
      · rw [Nat.testBit_two_pow] at h
        have : k = j:=by simpa using h
        rw [← this];exact hkl
      · have hil:=(List.getElem?_eq_some_iff.1 ho).1
        have hk2 : l[k]? = some (l[k]'(by omega)):=List.getElem?_eq_getElem (by omega)
        have hkt : (l.take i)[k]? = some (l[k]'(by omega)):=by rw [List.getElem?_take,if_pos hki];exact hk2
        have h' : ((masks l).getD k 0).testBit j = true:=by
          rw [L8 l k _ hk2]
          rw [L8 (l.take i) k _ hkt,List.take_take,Nat.min_eq_left (by omega)] at h
          exact h
        exact ih k hki _ hk2 (hshut k _ hk2 hkl) j h'
def tailOk (l : List Oper) (n : Nat) : Bool:=(List.range l.length).all fun i => decide (i < n) || (masks l).getD i 0 == 2 ^ i - 1
section
variable {P : Program} {Q : Exit → Act → World → Prop} {a0 : Act} {w : World} {R : List Fact} {D : List (List (Nat × Nat))} {every : List (Nat × Nat)} {l : List Oper} {n : Nat}
theorem forced (hback : ∀ i o,l[i]? = some o → ∀ e ∈ o.after,Region.binds .any e = true → e.on < i) (ht : tailOk l n = true) :
    ∀ (fuel m : Nat) (listed : Array Bool) (a : Act) (W : World),n ≤ m → l.length ≤ m + fuel → listed.size = l.length → (∀ j,j < m → listed.getD j false = true) → (∀ j,m ≤ j → j < l.length → listed.getD j true = false) →
      wpList P l.toArray Q (l.drop m) a W → wpAny P .any l.toArray Q fuel listed a W:=by
  intro fuel
  induction fuel with
  | zero =>
    intro m listed a W hn hm hs h1 h2 h
    rw [List.drop_of_length_le (by omega)] at h
    refine ⟨?_,h⟩
    cases hr : Region.ready .any l.toArray listed with
    | nil => rfl
    | cons x xs =>
      have hx : x ∈ Region.ready .any l.toArray listed:=by rw [hr];exact List.mem_cons_self
      obtain ⟨hl,o,hi,_⟩:=mem_ready.1 hx
      have hlt : x < l.length:=by
        have:=(Array.getElem?_eq_some_iff.1 hi).1
        simpa using this
      have h3:=h1 x (by omega)
      have hxl : x < listed.size:=by omega
      simp [hxl] at hl h3
      rw [hl] at h3;cases h3
  | succ fuel ih =>
    intro m listed a W hn hm hs h1 h2 h
    rcases Nat.lt_or_ge m l.length with hml | hml
    rotate_left
    · rw [List.drop_of_length_le hml] at h
      refine ⟨fun _ => h,fun i hi => ?_⟩
      exfalso
      obtain ⟨hl,o,hio,_⟩:=mem_ready.1 hi
      have hlt : i < l.length:=by
        have:=(Array.getElem?_eq_some_iff.1 hio).1
        simpa using this
      have h3:=h1 i (by omega)
      have hxl : i < listed.size:=by omega
      simp [hxl] at hl h3
      rw [hl] at h3;cases h3
    have hmo : l[m]? = some l[m]:=List.getElem?_eq_getElem hml
    have hmr : m ∈ Region.ready .any l.toArray listed:=mem_ready.2 ⟨h2 m (Nat.le_refl _) hml,l[m],by simp,fun e he hb => h1 _ (hback m _ hmo e he hb)⟩
    refine ⟨fun hr => (by rw [hr] at hmr;cases hmr),fun i hi => ?_⟩
    obtain ⟨hil,o,hio,hall⟩:=mem_ready.1 hi
    have hio' : l[i]? = some o:=by simpa using hio
    have hilt:=(List.getElem?_eq_some_iff.1 hio').1
    have him : m ≤ i:=by
      rcases Nat.lt_or_ge i m with hlt | hge
      · have h3:=h1 i hlt
        have hxl : i < listed.size:=by omega
        simp [hxl] at hil h3
        rw [hil] at h3;cases h3
      · exact hge
    have hshut : ∀ j oj,l[j]? = some oj → listed.getD j false = true → ∀ e ∈ oj.after,Region.binds .any e = true → listed.getD e.on false = true:=by
      intro j oj hj hlj e he hb
      have hjl:=(List.getElem?_eq_some_iff.1 hj).1
      have hjm : j < m:=by
        rcases Nat.lt_or_ge j m with hlt | hge
        · exact hlt
        · have h3:=h2 j hge hjl
          have hxl : j < listed.size:=by omega
          simp [hxl] at h3 hlj
          rw [h3] at hlj;cases hlj
      exact h1 _ (Nat.lt_trans (hback j oj hj e he hb) hjm)
    have hie : i = m:=by
      rcases Nat.lt_or_ge m i with hlt | hge
      · exfalso
        have ht1:=List.all_eq_true.1 ht i (List.mem_range.2 hilt)
        have ht2 : (masks l).getD i 0 = 2 ^ i - 1:=by
          simp only [Bool.or_eq_true,decide_eq_true_eq,beq_iff_eq] at ht1
          rcases ht1 with h | h
          · omega
          · exact h
        have h3:=lV hback hshut i o hio' hall m (by rw [ht2,Nat.testBit_two_pow_sub_one];simpa using hlt)
        have h4:=h2 m (Nat.le_refl _) hml
        have hxl : m < listed.size:=by omega
        simp [hxl] at h3 h4
        rw [h4] at h3;cases h3
      · omega
    subst hie
    have hoo : o = l[i]:=by rw [hmo] at hio';cases hio';rfl
    subst hoo
    rw [List.drop_eq_getElem_cons hml] at h
    have hK : ∀ a' W',wpList P l.toArray Q (l.drop (i + 1)) a' W' → wpAny P .any l.toArray Q fuel (listed.setIfInBounds i true) a' W':=fun a' W' h' =>
      ih (i + 1) _ a' W' (by omega) (by omega) (by simpa using hs) (fun j hj => by
        by_cases hji : j = i
        · subst hji
          have : j < listed.size:=by omega
          simp [this]
        · exact getD_set_true (h1 j (by omega))) (fun j hj hjl => by rw [getD_set_ne true (by omega)];exact h2 j (by omega) hjl) h'
    unfold wpOp
    rw [hio]
    simp only
    unfold wpList at h
    split
    · rename_i hw
      rw [if_pos hw] at h
      exact h.imp (Oper.wp_mono hK) id
    · rename_i hw
      rw [if_neg hw] at h
      exact hK _ _ h
theorem parts_tail {E : List (Nat × Nat)} (hok : ∀ i o,l.toArray[i]? = some o → OpOk l.toArray D E a0.tmps.size i o) (hev : ∀ p ∈ every,p.1 < n ∧ ∃ oj,l[p.1]? = some oj ∧ oj.dst = some p.2) (ht : tailOk l n = true) (hn : n ≤ l.length)
    (hob : ∀ i o,i < n → l.toArray[i]? = some o → ∀ W,Below w.heap.size w W → given R W (fun a1 => wpList P l.toArray (PartPost a0.defers W o (factAt R i)) [o] a1 W) (D.getD i []) a0)
    (hmem : ∀ i o d,i < n → l[i]? = some o → o.dst = some d → (i,d) ∈ every)
    (hend : ∀ W,Below w.heap.size w W → given R W (fun a => wpList P l.toArray Q (l.drop n) a W) every a0) :
    ∀ (fuel : Nat) (listed : Array Bool) (a : Act) (W : World),PInv l.toArray R a0 w listed a W → (∀ j,n ≤ j → j < l.length → listed.getD j true = false) → (listed.toList.take n).count false + (l.length - n) ≤ fuel → wpAny P .any l.toArray Q fuel listed a W:=by
  have hback : ∀ i o,l[i]? = some o → ∀ e ∈ o.after,Region.binds .any e = true → e.on < i:=fun i o hi => (hok i o (by simpa using hi)).back
  have switch : ∀ (fuel : Nat) (listed : Array Bool) (a : Act) (W : World),PInv l.toArray R a0 w listed a W → (∀ j,n ≤ j → j < l.length → listed.getD j true = false) → (∀ j,j < n → listed.getD j false = true) → l.length - n ≤ fuel → wpAny P .any l.toArray Q fuel listed a W:=by
    intro fuel listed a W h h2 h1 hf
    have hs : listed.size = l.length:=by have:=h.size;simpa using this
    refine forced hback ht fuel n listed a W (Nat.le_refl _) (by omega) hs h1 h2 ?_
    have h3:=xR (a:=a) every a0 (hend W h.ext) fun p hp => by
      obtain ⟨hpn,oj,hj,hd⟩:=hev p hp
      exact h.got p.1 oj p.2 (by simpa using hj) hd (h1 p.1 hpn)
    have e1 : fill a every a0 = a:=by
      have e2 : (fill a every a0).tmps = a.tmps:=by
        apply Array.ext_getElem?
        intro t
        rw [xF]
        by_cases hc : t ∈ every.map (·.2) ∧ t < a0.tmps.size
        · rw [if_pos hc,y7 a t (by rw [h.tsz];exact hc.2)]
        · rw [if_neg hc]
          by_cases hts : t < a0.tmps.size
          · refine (h.old t fun j oj hj hd => ?_).symm
            have hj' : l[j]? = some oj:=by simpa using hj
            rcases Nat.lt_or_ge j n with hjn | hjn
            · exact absurd ⟨List.mem_map.2 ⟨(j,t),hmem j oj t hjn hj' hd,rfl⟩,hts⟩ hc
            · have hjl:=(List.getElem?_eq_some_iff.1 hj').1
              have h4:=h2 j hjn hjl
              have hxl : j < listed.size:=by omega
              simp [hxl] at h4 ⊢;exact h4
          · rw [Array.getElem?_eq_none (by omega),Array.getElem?_eq_none (by rw [h.tsz];omega)]
      have e3:=(qR a every a0).trans h.defs.symm
      cases hf : fill a every a0
      cases a
      rw [hf] at e2 e3
      simp only at e2 e3
      rw [e2,e3]
    rw [e1] at h3
    exact h3
  intro fuel
  induction fuel with
  | zero =>
    intro listed a W h h2 hc
    refine switch 0 listed a W h h2 (fun j hj => ?_) (by omega)
    have hs : listed.size = l.length:=by have:=h.size;simpa using this
    have hn0 : false ∉ listed.toList.take n:=List.count_eq_zero.1 (by omega)
    have hjl : j < listed.size:=by omega
    cases hb : listed[j]
    · refine absurd ?_ hn0
      have : (listed.toList.take n)[j]? = some false:=by rw [List.getElem?_take,if_pos hj];simp [hjl,hb]
      exact List.mem_of_getElem? this
    · simp [hjl,hb]
  | succ fuel ih =>
    intro listed a W h h2 hc
    have hs : listed.size = l.length:=by have:=h.size;simpa using this
    by_cases hall : ∀ j,j < n → listed.getD j false = true
    · exact switch _ listed a W h h2 hall (by omega)
    · refine ⟨fun hr => ?_,fun i hi => ?_⟩
      · exact absurd (fun j hj => xW hok h.size hr j (by simp;omega)) hall
      · obtain ⟨hl,o,hio,hw⟩:=mem_ready.1 hi
        have hio' : l[i]? = some o:=by simpa using hio
        have hil:=(List.getElem?_eq_some_iff.1 hio').1
        have hin : i < n:=by
          rcases Nat.lt_or_ge i n with hlt | hge
          · exact hlt
          · exfalso
            refine hall fun j hj => ?_
            have ht1:=List.all_eq_true.1 ht i (List.mem_range.2 hil)
            have ht2 : (masks l).getD i 0 = 2 ^ i - 1:=by
              simp only [Bool.or_eq_true,decide_eq_true_eq,beq_iff_eq] at ht1
              rcases ht1 with h | h
              · omega
              · exact h
            exact lV hback (fun j oj hj => h.shut j oj (by simpa using hj)) i o hio' hw j (by rw [ht2,Nat.testBit_two_pow_sub_one];simpa using (by omega : j < i))
        refine JW hio (hok i o hio) (hob i o hin hio) h hi fun a' W' h' => ih _ _ _ h' (fun j hj hjl => by rw [getD_set_ne true (by omega)];exact h2 j hj hjl) ?_
        have hixl : i < listed.size:=by omega
        have:=qX (listed.toList.take n) i (by
          rw [List.getElem?_take,if_pos hin]
          simp [hixl] at hl ⊢;exact hl)
        rw [Array.toList_setIfInBounds,List.take_set]
        omega
theorem jC {id : Nat} (n : Nat) (R : List Fact) (D : List (List (Nat × Nat))) (every : List (Nat × Nat)) (hm : P.follows .mixedOrders = true) (hok : partsOk l.toArray D (every ++ ((List.range l.length).filterMap fun i => if n ≤ i then ((l[i]?).bind (·.dst)).map fun d => (i,d) else none)) a0.tmps.size = true)
    (ht : tailOk l n = true) (hn : decide (n ≤ l.length) = true) (hev : every.all (fun p => decide (p.1 < n)) = true)
    (hob : obs P l.toArray R D w a0 0 (l.take n)) (hend : ∀ W,Below w.heap.size w W → given R W (fun a => wpList P l.toArray Q (l.drop n) a W) every a0) : (Code.region id l.toArray true).wp P Q a0 w:=by
  unfold partsOk at hok
  simp only [Bool.and_eq_true] at hok
  generalize hE : every ++ ((List.range l.length).filterMap fun i => if n ≤ i then ((l[i]?).bind (·.dst)).map fun d => (i,d) else none) = E at hok
  have hn' : n ≤ l.length:=by simpa using hn
  have ok : ∀ i o,l.toArray[i]? = some o → OpOk l.toArray D E a0.tmps.size i o:=fun i o hi => OpOk.of (by
    have:=List.all_eq_true.1 hok.1 i (List.mem_range.2 (Array.getElem?_eq_some_iff.1 hi).1)
    rw [hi] at this
    exact this)
  have hmem : ∀ i o d,i < n → l[i]? = some o → o.dst = some d → (i,d) ∈ every:=fun i o d hin hio hd => by
    have h1:=((ok i o (by simpa using hio)).dst d hd).2.1
    rw [← hE,List.mem_append] at h1
    rcases h1 with h1 | h1
    · exact h1
    · exfalso
      obtain ⟨k,hk,hkk⟩:=List.mem_filterMap.1 h1
      split at hkk
      · obtain ⟨d',_,hdd⟩:=Option.map_eq_some_iff.1 hkk
        cases hdd;omega
      · cases hkk
  have hev' : ∀ p ∈ every,p.1 < n ∧ ∃ oj,l[p.1]? = some oj ∧ oj.dst = some p.2:=fun p hp => by
    have h1:=List.all_eq_true.1 hok.2 p (by rw [← hE];exact List.mem_append_left _ hp)
    obtain ⟨oj,h6,h7⟩:=Option.bind_eq_some_iff.1 (beq_iff_eq.1 h1)
    have h2:=List.all_eq_true.1 hev p hp
    exact ⟨by simpa using h2,oj,by simpa using h6,h7⟩
  refine wp_region_any hm (parts_tail (every:=every) (D:=D) (R:=R) (n:=n) ok hev' ht hn' (fun i o hin hio W hW => ?_) hmem hend _ _ a0 _ ⟨by simp,⟨rfl,rfl,rfl,Nat.le_refl _,fun _ _ => rfl⟩,rfl,rfl,fun j oj d hj _ hl => ?_,fun _ _ => rfl,fun j oj hj hl => ?_⟩ (fun j _ hjl => by simp [hjl]) ?_)
  · have h1:=QR (l.take n) 0 hob i o (by rw [List.getElem?_take,if_pos hin];simpa using hio) W hW
    rw [Nat.zero_add] at h1
    exact h1
  · exfalso
    have hlt : j < l.length:=by have:=(Array.getElem?_eq_some_iff.1 hj).1;simpa using this
    simp [hlt] at hl
  · exfalso
    have hlt : j < l.length:=by have:=(Array.getElem?_eq_some_iff.1 hj).1;simpa using this
    simp [hlt] at hl
  · simp;omega
end
end Go.Proofs.Ytnaomfmmkhgbhaa
namespace Go.Proofs.Ytnaomfmmkhgbhaa
section
variable {P : Program} {ops : Array Oper} {w : World} {Q : Act → Prop} {a : Act} {o : Oper} {rest : List Oper}
end
end Go.Proofs.Ytnaomfmmkhgbhaa
