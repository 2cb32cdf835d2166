/- The document's own functions of layer 6, walked: Reach. -/
import Derived.Test.YtoekiejipdabmaaDoorPk4
namespace Go.Proofs.YtoekiejipdabmaaDoor
open Go.RowKit
def trueTo (o : Nat → Bool) (m : Nat) : List Nat:=(List.range m).filter fun i => o i
theorem vD (o : Nat → Bool) (m : Nat) : trueTo o (m + 1) = trueTo o m ++ (if o m then [m] else []):=by
  unfold trueTo
  rw [List.range_succ,List.filter_append]
  by_cases h : o m <;> simp [h]
theorem vY (o : Nat → Bool) (m : Nat) : (trueTo o m).length ≤ m:=by
  have:=List.length_filter_le (fun i => o i) (List.range m)
  simpa [trueTo] using this
set_option maxRecDepth 1000000 in
set_option maxHeartbeats 16000000 in
theorem Y6 (B : Nat) (p : Pg) (w : World) (hp : p.Ok w B) (A2 : Option Addr) (n2 c2 : Nat) (fr : List Nat) (hr2 : Row natV w B A2 n2 fr) (hn2 : n2 ≤ 100000) (hB : B ≤ w.heap.size) (h32 : p.len ≤ 32) (hsm : Q.small p = true) :
    Calls Tryd.prog 65 #[pgA p,.slice A2 n2 c2] w fun e w' => ∃ v o,e = .returned v ∧ (∀ i,i < p.len → (o i = true ↔ Comes p (fun x => x ∈ fr) i)) ∧ Own w' w.heap.size 3 v ((trueTo o p.len).map natV) ∧ Below w.heap.size w w':=by
  have HP:=kp hp;have HR2:=kp hr2
  have HLen:=kp hp.row.len
  have HL2:=kp hr2.len
  have HSm : Kept (∀ f ∈ p.fns,f.nodes.length ≤ 100):=kp (by
    unfold Q.small at hsm
    rw [Bool.and_eq_true] at hsm
    intro f hf
    simpa using List.all_eq_true.1 hsm.2 f hf)
  have hcap : p.len ≤ p.cap:=hp.lc
  have hcapm:=hp.cm
  unfold maxLen at hcapm
  clear hp hr2 hsm
  rw [jM]
  go_enter Tryd.func65,Tryd.ntmps65
  go_wp2_with (first
    | ((with_reducible refine j4 rfl 24 (.tmp 0) rfl (pgC p) rfl ?_);intro g1 w3 hg1 hk1 hu1;have HKc:=kp hk1;have HW3:=kp hu1;have hs3:=hu1.size;obtain ⟨hc0,hc1,hc2,hc3⟩:=j8 hk1;clear hg1 hk1 hu1)
    | ((with_reducible show Sl 18);go_must (refine l9 rfl 136 (.tmp 17) (.tmp 17) rfl 4 (.bool false) 1 Tryd.underlying136 bool_info rfl .i64 .i64 p.len p.len rfl rfl (by omega) (by omega) (by omega) ?_);intro go w4 hgo hk4 hw4;rw [YD] at hk4;have HO4:=kp hk4;have HW4:=kp hw4;clear hk4 hw4 hc0 hc1 hc2 hc3))
  have HPW : Kept (∀ W,Below w3.heap.size w3 W → p.Ok W B):=kp fun W hW => HP.out.below ((HW3.out.mono hB).trans (hW.mono (by omega)))
  have HR2W : Kept (∀ W,Below w3.heap.size w3 W → Row natV W B A2 n2 fr):=kp fun W hW => HR2.out.below ((HW3.out.mono hB).trans (hW.mono (by omega)))
  have HC3 : Kept (∀ W,Below w3.heap.size w3 W → W.cell? ⟨g1,3,none⟩ = some (.slice p.A p.len p.cap)):=kp fun W hW => (j8 (HKc.out.below hW HKc.out.lt)).2.2.2
  have HSZ : Kept (∀ W,Below w3.heap.size w3 W → B ≤ W.heap.size ∧ w3.heap.size ≤ W.heap.size):=kp fun W hW => by have:=hW.size;omega
  go_loopw [7] (fun v7 wr => ∃ (i : Nat) (o : Nat → Bool),i ≤ n2 ∧ v7 = .int .i64 i ∧ (∀ g,o g = true → g < p.len ∧ g ∈ fr) ∧ (∀ (j g : Nat),j < i → fr[j]? = some g → g < p.len → o g = true) ∧ Blk wr go 4 (outB o p.len) ∧ Below w3.heap.size w3 wr) (fun v7 _ => n2 - (intOf v7).toNat)
  case atStart => exact ⟨0,fun _ => false,by omega,rfl,(fun g h => by cases h),fun j g hj => by omega,HO4.out,HW4.out⟩
  case round =>
    clear HO4 HW4
    obtain ⟨i,o,hi,rfl,ho1,ho2,hob,hbw⟩:=hrel
    have H1:=kp ho1;have H2:=kp ho2;have HO:=kp hob;have HBw:=kp hbw
    have hr2w:=HR2W.out wr hbw
    have hsz:=hbw.size
    clear ho1 ho2 hob hbw
    by_cases hlt : i < n2
    · obtain ⟨ad2,y,rfl,hab2,hy,hcy⟩:=hr2w.get hlt
      rw [lG] at hcy
      have HY:=kp hy
      have h2g : ad2.block ≠ go:=by omega
      clear hy hr2w
      by_cases hyn : y < p.len
      · have hcg : wr.cell? ⟨go,y,none⟩ = some (.bool (o y)):=(HO.out.cell y).trans (xM o p.len y hyn)
        have hfg:=HO.out.frozen y
        go_wp2
        go_roundw
        case rel =>
          refine ⟨i + 1,fun g => if g = y then true else o g,by omega,by go_num,fun g hg => ?_,fun j g hj hjs hg => ?_,by rw [← LC];exact HO.out.set y _,HBw.out.grown (jX (g:=go) (jS _ _)) hsz (by intro b e;cases e;exact hgo)⟩
          · by_cases hgy : g = y
            · subst hgy;exact ⟨hyn,List.mem_of_getElem? HY.out⟩
            · simp only [if_neg hgy] at hg;exact H1.out g hg
          · show (if g = y then true else o g) = true
            by_cases hgy : g = y
            · rw [if_pos hgy]
            · rw [if_neg hgy]
              by_cases hji : j = i
              · subst hji;rw [HY.out] at hjs;cases hjs;exact absurd rfl hgy
              · exact H2.out j g (by omega) hjs hg
        case measure => simp [intOf];omega
      · have hyge : p.len ≤ y:=by omega
        clear hyn
        go_wp2
        go_roundw
        case rel =>
          refine ⟨i + 1,o,by omega,by go_num,H1.out,fun j g hj hjs hg => ?_,HO.out,HBw.out⟩
          by_cases hji : j = i
          · subst hji;rw [HY.out] at hjs;cases hjs;omega
          · exact H2.out j g (by omega) hjs hg
        case measure => simp [intOf];omega
    · have hge : n2 ≤ i:=by omega
      have hdb : decide (i < n2) = false:=decide_eq_false hlt
      have HIn0 : Kept (∀ j,j ∈ fr → j < p.len → o j = true):=kp (by
        intro j hj hjl
        obtain ⟨k,hk⟩:=List.mem_iff_getElem?.1 hj
        have:=(List.getElem?_eq_some_iff.1 hk).1
        rw [HL2.out] at this
        exact H2.out k j (by omega) hk hjl)
      have HRt0 : Kept (Right p (fun x => x ∈ fr) o):=kp (fun g hg => ⟨(H1.out g hg).1,.inl (H1.out g hg).2⟩)
      clear hlt hr2w hge
      go_wp2
      clear hdb
      go_loopw [8] (fun v8 wr => ∃ (r : Nat) (o : Nat → Bool),r ≤ p.len ∧ v8 = .int .i64 r ∧ Right p (fun x => x ∈ fr) o ∧ (∀ j,j ∈ fr → j < p.len → o j = true) ∧ (Shut p o ∨ r ≤ cnt o p.len) ∧ Blk wr go 4 (outB o p.len) ∧ Below w3.heap.size w3 wr) (fun v8 _ => p.len - (intOf v8).toNat)
      case atStart => exact ⟨0,o,by omega,rfl,HRt0.out,HIn0.out,.inr (Nat.zero_le _),HO.out,HBw.out⟩
      case round =>
        clear HO HBw H1 H2 HIn0 HRt0 hsz
        obtain ⟨r,o0,hr,rfl,hrt,hin,hsh,hob,hbw⟩:=hrel
        have HRt:=kp hrt;have HIn:=kp hin;have HSh:=kp hsh;have HO0:=kp hob;have HBw:=kp hbw
        clear hrt hin hsh hob hbw
        by_cases hltr : r < p.len
        · go_wp2
          go_loopw [9] (fun v9 wr => ∃ (f : Nat) (o : Nat → Bool),f ≤ p.len ∧ v9 = .int .i64 f ∧ CallInv p (fun x => x ∈ fr) o0 o f ∧ Blk wr go 4 (outB o p.len) ∧ Below w3.heap.size w3 wr) (fun v9 _ => p.len - (intOf v9).toNat)
          case atStart => exact ⟨0,o0,by omega,rfl,CallInv.start HRt.out,HO0.out,HBw.out⟩
          case round =>
            clear HO0 HBw
            obtain ⟨f,o,hf,rfl,hinv,hob,hbw⟩:=hrel
            have HInv:=kp hinv;have HO:=kp hob;have HBw:=kp hbw
            have hgo2:=hob.lt
            obtain ⟨hsB,hs33⟩:=HSZ.out wr hbw
            clear hinv hob
            by_cases hltf : f < p.len
            · obtain ⟨ad0,fn,e0,_,hfn,hfok,hcf⟩:=(HPW.out wr hbw).fn hltf
              have hc3 : wr.cell? ⟨g1,3,none⟩ = some (.slice (some ad0) p.len p.cap):=by rw [← e0];exact HC3.out wr hbw
              have HFn:=kp hfn;have HFok:=kp hfok
              have hflm : fn.len ≤ 100:=by
                have h1:=HSm.out fn (List.mem_of_getElem? hfn)
                have h2:=hfok.nodes.1.len
                omega
              obtain ⟨cs,hcs⟩ : ∃ cs,namedL fn.nodes 7 = cs:=⟨_,rfl⟩
              obtain ⟨nc,hnc⟩ : ∃ nc,cs.length = nc:=⟨_,rfl⟩
              have hnc32 : nc ≤ 32:=by rw [← hnc,← hcs];exact vI _ _ _
              have HCs:=kp hcs;have HNc:=kp hnc
              clear hfn hfok hcs hnc hbw e0
              go_wp2_with (first
                | (go_at_call 78;go_must (refine (Y7 B fn.A fn.len fn.cap fn.nodes 7 wr HFok.out.nodes (by omega) hsB).mono ?_);rintro e w7 ⟨v7,rfl,hown7,hb7⟩
                   rw [HCs.out] at hown7
                   have HBk7:=kp hown7.block
                   obtain ⟨A7,c7,rfl,hc7,hm7,hr7⟩:=Own.readsN hown7 HNc.out
                   have HR7:=kp hr7
                   have HB7 : Kept (Below w3.heap.size w3 w7):=kp (HBw.out.trans (hb7.mono hs33))
                   have HO7:=kp (HO.out.below hb7 hgo2)
                   have hz7:=hb7.size
                   have hm77 : c7 ≤ 9223372036854775807:=by unfold maxLen at hm7;omega
                   clear hown7 hb7 hm7 hr7 hc3 hcf))
              go_loopw [11] (fun v11 wr => ∃ (k : Nat) (o' : Nat → Bool),k ≤ nc ∧ v11 = .int .i64 k ∧ NameInv p.len o o' f cs k ∧ Blk wr go 4 (outB o' p.len) ∧ Row natV wr w7.heap.size A7 nc cs ∧ w7.heap.size ≤ wr.heap.size ∧ Below w3.heap.size w3 wr) (fun v11 _ => nc - (intOf v11).toNat)
              case atStart => exact ⟨0,o,by omega,rfl,NameInv.start _ _ _ _,HO7.out,HR7.out,Nat.le_refl _,HB7.out⟩
              case round =>
                clear HO7 HR7 HB7 HO HBw
                obtain ⟨k,o',hk,rfl,hstep,hob,hr7,hsz7,hbw⟩:=hrel
                have HStep:=kp hstep;have HO:=kp hob;have HR7:=kp hr7;have HBw:=kp hbw
                have hcf : wr.cell? ⟨go,f,none⟩ = some (.bool (o' f)):=(hob.cell f).trans (xM o' p.len f hltf)
                obtain ⟨bf,hbf⟩ : ∃ bf,o' f = bf:=⟨_,rfl⟩
                rw [hbf] at hcf
                have HBf:=kp hbf
                clear hstep hob hr7 hbw hbf
                by_cases hltk : k < nc
                · obtain ⟨ad7,y,e7,had7,hy,hcy⟩:=HR7.out.get hltk
                  rw [lG] at hcy
                  have HY:=kp hy
                  have h7g : ad7.block ≠ go:=by
                    have:=HBk7.out ad7.block (by rw [e7];rfl)
                    omega
                  subst e7
                  clear hy
                  by_cases hyn : y < p.len
                  · have hcg : wr.cell? ⟨go,y,none⟩ = some (.bool (o' y)):=(HO.out.cell y).trans (xM o' p.len y hyn)
                    have hfg:=HO.out.frozen y
                    cases bf
                    · have HSt2:=kp (HStep.out.skip HY.out (fun h => by rw [HBf.out] at h;cases h.1))
                      clear hcg hfg
                      go_wp2
                      go_roundw
                      case rel => exact ⟨k + 1,o',by omega,by go_num,HSt2.out,HO.out,HR7.out,hsz7,HBw.out⟩
                      case measure => simp [intOf];omega
                    · have HSt2:=kp (HStep.out.set HY.out HBf.out hyn)
                      go_wp2
                      go_roundw
                      case rel => exact ⟨k + 1,fun g => if g = y then true else o' g,by omega,by go_num,HSt2.out,by rw [← LC];exact HO.out.set y _,HR7.out.grown (jX (g:=go) (jS _ _)) (by omega) (fun a _ e e2 => by cases e;cases e2;exact h7g rfl),by simpa using hsz7,HBw.out.grown (jX (g:=go) (jS _ _)) (HSZ.out wr HBw.out).2 (by intro b e;cases e;exact hgo)⟩
                      case measure => simp [intOf];omega
                  · have HSt2:=kp (HStep.out.skip HY.out (fun h => hyn h.2))
                    have hyge : p.len ≤ y:=by omega
                    clear hyn
                    cases bf
                    · go_wp2
                      go_roundw
                      case rel => exact ⟨k + 1,o',by omega,by go_num,HSt2.out,HO.out,HR7.out,hsz7,HBw.out⟩
                      case measure => simp [intOf];omega
                    · go_wp2
                      go_roundw
                      case rel => exact ⟨k + 1,o',by omega,by go_num,HSt2.out,HO.out,HR7.out,hsz7,HBw.out⟩
                      case measure => simp [intOf];omega
                · have hgek : nc ≤ k:=by omega
                  have hke : k = (namedL fn.nodes 7).length:=by rw [HCs.out,HNc.out];omega
                  have HNext:=kp (HInv.out.step HLen.out h32 HFn.out (by have h:=HStep.out;rw [hke,← HCs.out] at h;exact h))
                  clear hltk hke
                  go_wp2
                  go_roundw
                  case rel => exact ⟨f + 1,o',by omega,by go_num,HNext.out,HO.out,HBw.out⟩
                  case measure => simp [intOf];omega
            · have hgef : p.len ≤ f:=by omega
              have hfe : f = p.len:=by omega
              have HG:=kp (show Shut p o ∨ r + 1 ≤ cnt o p.len from by have h:=HInv.out;rw [hfe] at h;exact h.gain HSh.out)
              have HRt2:=kp HInv.out.right
              have HIn2 : Kept (∀ j,j ∈ fr → j < p.len → o j = true):=kp (fun j h1 h2 => HInv.out.mono j (HIn.out j h1 h2))
              clear hltf hfe hbw
              go_wp2
              go_roundw
              case rel => exact ⟨r + 1,o,by omega,by go_num,HRt2.out,HIn2.out,HG.out,HO.out,HBw.out⟩
              case measure => simp [intOf];omega
        · have hger : p.len ≤ r:=by omega
          have hdb : decide (r < p.len) = false:=decide_eq_false hltr
          have hre : r = p.len:=by omega
          have HSe : Kept (Shut p o0):=kp (shut_end (by have h:=HSh.out;rw [hre] at h;exact h))
          clear hltr hre hger
          go_wp2
          clear hdb
          go_loopw [12,13] (fun v12 v13 wr => ∃ m : Nat,m ≤ p.len ∧ v13 = .int .i64 m ∧ Own wr w3.heap.size 3 v12 ((trueTo o0 m).map natV) ∧ (∀ i,i < p.len → wr.cell? ⟨go,i,none⟩ = some (.bool (o0 i))) ∧ Below w3.heap.size w3 wr ∧ go < wr.heap.size ∧ (∀ b,v12.ownBlock = some b → b ≠ go)) (fun _ v13 _ => p.len - (intOf v13).toNat)
          case atStart => exact ⟨0,by omega,rfl,Own.nil _ _ _,fun i hi => (HO0.out.cell i).trans (xM o0 p.len i hi),HBw.out,HO0.out.lt,fun b h => by cases h⟩
          case round =>
            clear HO0 HBw
            obtain ⟨m,hm,rfl,hown,hcg,hbw,hgw,hnb⟩:=hrel
            have HOwn:=kp hown;have HCg:=kp hcg;have HBw:=kp hbw;have HNb:=kp hnb
            have hml:=vY o0 m
            have hs9:=hbw.size
            clear hown hcg hbw hnb
            by_cases hltm : m < p.len
            · have hcm:=HCg.out m hltm
              obtain ⟨bm,hbm⟩ : ∃ bm,o0 m = bm:=⟨_,rfl⟩
              rw [hbm] at hcm
              have HBm:=kp hbm
              have hm32 : m < 32:=by omega
              clear hbm
              cases bm
              · have HT : Kept (trueTo o0 (m + 1) = trueTo o0 m):=kp (by rw [vD,HBm.out];simp)
                go_wp2
                go_roundw
                case rel => exact ⟨m + 1,by omega,by go_num,by rw [HT.out];exact HOwn.out,HCg.out,HBw.out,hgw,HNb.out⟩
                case measure => simp [intOf];omega
              · have HT : Kept (trueTo o0 (m + 1) = trueTo o0 m ++ [m]):=kp (by rw [vD,HBm.out];simp)
                go_wp2_with (at_builtin;go_must (refine jO rfl (.tmp 90) (.tmp 92) 76 rfl w3.heap.size 3 _ _ Tryd.underlying76 q6 rfl _ _ _ _ rfl HOwn.out _ 1 rfl rfl rfl (by simp [maxLen];omega) (by simp;omega) hs9 ?_);intro v1 w5 hown1 hg1;have HO5:=kp hown1;clear hown1;have HG5:=kp hg1;clear hg1)
                go_roundw
                case rel =>
                  refine ⟨m + 1,by omega,by go_num,by rw [HT.out,List.map_append];exact HO5.out,fun i hi => ?_,HG5.out.below HBw.out HOwn.out hs9,Nat.lt_of_lt_of_le hgw HG5.out.size,fun b hb => ?_⟩
                  · rw [← HCg.out i hi]
                    exact World.cell?_of_block (HG5.out.1.block go hgw (fun e => HNb.out go e.symm rfl))
                  · rcases HG5.out.2 with h | h
                    · exact HNb.out b (h.symm.trans hb)
                    · have:=h b hb;omega
                case measure => simp [intOf];omega
            · have hgem : p.len ≤ m:=by omega
              have hme : m = p.len:=by omega
              have HOe:=kp (show Own wr w3.heap.size 3 _ ((trueTo o0 p.len).map natV) from by have h:=HOwn.out;rw [hme] at h;exact h)
              clear hltm hme
              go_wp2
              go_ret
              exact ⟨_,o0,rfl,fun i hi => ⟨fun h => HRt.out i h,fun h => shut_all HSe.out HIn.out h⟩,HOe.out.less hs3,HW3.out.trans (HBw.out.mono hs3)⟩
end Go.Proofs.YtoekiejipdabmaaDoor
