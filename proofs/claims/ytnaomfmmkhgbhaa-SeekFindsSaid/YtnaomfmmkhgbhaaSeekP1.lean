/- A config's bytes, as the program tells them, walked: appendKey. -/
import Derived.Test.YtnaomfmmkhgbhaaPk11
namespace Go.Proofs.Ytnaomfmmkhgbhaa
open Go.RowKit
theorem QU : (Try.prog.info? 133).map (·.zero) = some (some (.agg ([.int .i64 0,.int .i64 0] : List Value).toArray)):=by kernel_rfl
theorem u9 : (Try.prog.info? 133).map (·.size) = some 2:=by kernel_rfl
theorem zT {P : Program} (ty e : TypeId) (n : Nat) (hu : P.underlying ty = some (.array n e)) (hsz : (P.info? e).map (·.size) = some 1) (g off m : Nat) (hm : m ≤ n) (w : World) :
    (Instr.sliceAt ty (.pointer (some ⟨g,off,none⟩)) none (some (.int .i64 (m : Int))) none).run P w = .ok (.slice (some ⟨g,off,none⟩) m n) w:=by
  have hel : P.elem ty = e:=by simp [Program.elem,hu]
  have hal : P.arrayLen ty = n:=by simp [Program.arrayLen,hu]
  rw [run_sliceAt_array_h (P:=P) w ty ⟨g,off,none⟩ (by rw [hel,hal];exact hu) .i64 (m : Int) (by omega) (by rw [hal];omega)]
  cases hq : P.info? e with
  | none => simp [hq] at hsz
  | some ie =>
    have hs : ie.size = 1:=by simpa [hq] using hsz
    simp [hel,hal,sizeOf,typeInfo,hq,hs,slicedAt,Addr.add,Result.andThen]
set_option maxRecDepth 100000 in
set_option maxHeartbeats 3200000 in
theorem sk_key (B Bq : Nat) (p : Pg) (hf : Fine p) (hl : p.fns.length = p.len) (q : Pc) (w : World) (v : Value) (bs : List Nat) (hq : Mine w Bq q) (hg : M.Good p q.cf) (ho : Own w B 5 v (bs.map byteV)) (hbs : bs.length ≤ 1000) (hB : B ≤ w.heap.size) :
    Calls Try.prog 42 #[v,pgA p,pcA q] w fun e w' => ∃ v',e = .returned v' ∧ Own w' B 5 v' ((bs ++ K.key p q.cf).map byteV) ∧ Grew w w' v v':=by
  have hcl:=hf.counts.l;have hcs:=hf.counts.s
  obtain ⟨L,hL⟩ : ∃ L : Nat,p.l = L:=⟨p.l.toNat,by omega⟩
  obtain ⟨S,hS⟩ : ∃ S : Nat,p.s = S:=⟨p.s.toNat,by omega⟩
  have hL16 : L ≤ 16:=by omega
  have hS8 : S ≤ 8:=by omega
  have HPc : Kept (pgC p = [.int .i64 p.g,.int .i64 (L : Int),.int .i64 (S : Int),.slice p.A p.len p.cap]):=kp (by unfold pgC;rw [hL,hS])
  have HLn : Kept (p.l.toNat = L):=kp (by omega)
  have HSn : Kept (p.s.toNat = S):=kp (by omega)
  have HQ17:=kp (jT hg.owns)
  have HO16 : Kept (q.ow.length = 16):=kp hg.owns
  have HQ:=kp hq;have HO:=kp ho;have HG:=kp hg
  clear hcl hcs hL hS hq hg ho
  rw [jI,qD]
  obtain ⟨pc,hpc⟩ : ∃ pc,pgC p = pc:=⟨_,rfl⟩
  have HPE:=kp hpc
  rw [hpc] at HPc ⊢
  clear hpc
  have hsl : ∀ (g5 : Nat) (W : World),(Instr.sliceAt 44 (.pointer (some ⟨g5,1,none⟩)) none (some (.int .i64 (L : Int))) none).run Try.prog W = .ok (.slice (some ⟨g5,1,none⟩) L 16) W:=fun g5 W => zT 44 3 16 Try.underlying44 l7 g5 1 L hL16 W
  have HSl : Kept (∀ (g5 : Nat) (W : World),(Instr.sliceAt 92 (.pointer (some ⟨g5,1,none⟩)) none (some (.int .i64 (S : Int))) none).run Try.prog W = .ok (.slice (some ⟨g5,1,none⟩) S 8) W):=kp fun g5 W => zT 92 3 8 Try.underlying92 l7 g5 1 S hS8 W
  have HKey : Kept (K.key p q.cf = q.ow.take L ++ K.keyTs p (q.tvs.map tvT)):=kp (by rw [← HLn.out];rfl)
  have HTh : Kept (∀ x ∈ q.tvs.map tvT,x.slots.length = 8 ∧ x.stack.length ≤ 16):=kp fun x hx => ⟨HG.out.eight x hx,by have:=M.high hf hl HG.out hx;have:=hf.counts.f.2;omega⟩
  have HFine:=kp hf
  clear hl hf
  go_enter Try.func42,Try.ntmps42
  go_wp2_with (first
    | ((with_reducible refine j2 rfl 24 (.tmp 1) rfl pc rfl ?_);intro g4 w1 hg4 hk1 hw1;have HK4:=kp hk1;have HW1:=kp hw1;have hs1:=hw1.size;have hl1:=hk1.lt;clear hk1 hw1)
    | ((with_reducible refine j2 rfl 46 (.tmp 2) rfl (pcC q) rfl ?_);intro g5 w2 hg5 hk2 hw2;have HK5:=kp hk2;have HK4b:=kp (HK4.out.below hw2 hl1);have HW2:=kp (HW1.out.trans (hw2.mono hs1));have hs2:=HW2.out.size;have hc1 : w2.cell? ⟨g4,1,none⟩ = some (.int .i64 (L : Int)):=(by rw [HK4b.out.cell 1,HPc.out];rfl);have hc0 : w2.cell? ⟨g5,0,none⟩ = some (.slice q.A q.len q.cap):=HK5.out.cell 0;clear hk2 hw2))
  have HO2:=kp (HO.out.below HW2.out (Nat.le_refl _));have HQ2:=kp (HQ.out.below HW2.out (Nat.le_refl _))
  have HN5 : Kept (∀ k,v.ownBlock = some k → k < w.heap.size):=kp fun k hk => (HO.out.block k hk).2
  have hB2 : B ≤ w2.heap.size:=by omega
  clear hsl hc1 hc0
  go_loopw [0,20] (fun v0 v20 wr => ∃ i : Nat,i ≤ L ∧ v20 = .int .i64 i ∧ Own wr B 5 v0 ((bs ++ q.ow.take i).map byteV) ∧ Grew w2 wr v v0) (fun _ v20 _ => L - (intOf v20).toNat)
  case atStart => exact ⟨0,by omega,rfl,by simpa using HO2.out,Grew.refl _ _⟩
  case round =>
    clear HO2
    obtain ⟨i,hi,rfl,hor,hgr⟩:=hrel
    have HOr:=kp hor;have HGr:=kp hgr;have hsr:=hgr.size
    have HK5r:=kp (HK5.out.grew hgr (fun e => by have:=HN5.out _ e;omega));have HK4r:=kp (HK4b.out.grew hgr (fun e => by have:=HN5.out _ e;omega))
    clear hor hgr
    by_cases hlt : i < L
    · have hx : i < q.ow.length:=by have:=HO16.out;omega
      obtain ⟨x,hxx⟩ : ∃ x,q.ow[i]? = some x:=⟨_,List.getElem?_eq_getElem hx⟩
      have hxb : x ≤ 8:=by have h1:=HG.out.own x (List.mem_of_getElem? hxx);have h2:=HG.out.most;omega
      have hcx : wr.cell? ⟨g5,1 + i,none⟩ = some (.int .i64 (x : Int)):=by rw [HK5r.out.cell,Nat.add_comm,pcC,List.getElem?_cons_succ,List.getElem?_map,hxx];rfl
      have HLl : Kept (((bs ++ q.ow.take i).map byteV).length ≤ 1100):=kp (by rw [List.length_map,List.length_append,List.length_take];omega)
      have HE : Kept ((bs ++ q.ow.take i).map byteV ++ [byteV x] = (bs ++ q.ow.take (i + 1)).map byteV):=kp (by rw [List.take_add_one,hxx];simp)
      obtain ⟨xs,hxs⟩ : ∃ xs,(bs ++ q.ow.take i).map byteV = xs:=⟨_,rfl⟩
      rw [hxs] at HLl HE HOr
      clear hxx hx hxs
      go_wp2_with (at_builtin;go_must (refine q8 rfl (.tmp 24) (.tmp 27) 59 rfl B 5 _ _ Try.underlying59 zS rfl wr _ xs _ rfl HOr.out _ 1 rfl rfl rfl (by have:=HLl.out;simp [maxLen];omega) (by have:=HLl.out;simp;omega) (by omega) ?_);intro v1 w3 hown hg;have HO3:=kp hown;have HG3:=kp (HGr.out.trans hg);clear hown hg)
      go_roundw
      case rel => exact ⟨i + 1,by omega,by go_num,by rw [← HE.out];exact HO3.out,HG3.out⟩
      case measure => simp [intOf];omega
    · have hiL : L = i:=by omega
      subst hiL
      have HOs:=kp HOr.out
      have HQr:=kp (HQ2.out.grew (HO.out.below HW2.out (Nat.le_refl _)) HGr.out (by decide) (by decide))
      have hc0 : wr.cell? ⟨g5,0,none⟩ = some (.slice q.A q.len q.cap):=HK5r.out.cell 0
      clear hlt HOr
      go_wp2
      obtain ⟨wA,rfl⟩ : ∃ x,x = wr:=⟨_,rfl⟩
      obtain ⟨vA,rfl⟩ : ∃ x,x = u0:=⟨_,rfl⟩
      have hq8 : q.len ≤ 8:=by rw [← HQr.out.ok.len];exact HG.out.most
      have HTl : Kept (q.tvs.length = q.len):=kp HQr.out.ok.row.len
      have hNA : ∀ k,vA.ownBlock = some k → k < wA.heap.size:=fun k hk => (HOs.out.block k hk).2
      go_loopw [0,33] (fun v0 v33 wr => ∃ j : Nat,j ≤ q.len ∧ v33 = .int .i64 j ∧ Own wr B 5 v0 ((bs ++ (q.ow.take L ++ K.keyTs p ((q.tvs.map tvT).take j))).map byteV) ∧ Grew w2 wr v v0) (fun _ v33 _ => q.len - (intOf v33).toNat)
      case atStart => exact ⟨0,by omega,rfl,by simpa [K.keyTs] using HOs.out,HGr.out⟩
      case round =>
        clear HOs HK5r HK4r HQr hsr HGr
        obtain ⟨j,hj,rfl,hor,hgr⟩:=hrel
        have HOr:=kp hor;have HGr:=kp hgr;have hsr:=hgr.size
        have HK4r:=kp (HK4b.out.grew hgr (fun e => by have:=HN5.out _ e;omega))
        have HQr:=kp (HQ2.out.grew (HO.out.below HW2.out (Nat.le_refl _)) hgr (by decide) (by decide))
        have HLp : Kept ((bs ++ (q.ow.take L ++ K.keyTs p ((q.tvs.map tvT).take j))).length ≤ 1400):=kp (by
          have h1:=K.keyTs_len (p:=p) (l:=(q.tvs.map tvT).take j) (fun x hx => HTh.out x (List.mem_of_mem_take hx))
          rw [List.length_take] at h1
          rw [List.length_append,List.length_append,List.length_take];omega)
        clear hor hgr
        by_cases hlt : j < q.len
        · obtain ⟨ad,x,hA,had,hx,hc⟩:=HQr.out.ok.row.get hlt
          have hxm:=List.mem_of_getElem? hx
          have hxt:=HTh.out (tvT x) (List.mem_map_of_mem hxm)
          have hX8 : x.slots.length = 8:=hxt.1
          have HX8:=kp hX8
          have hst : x.sv.stack.length ≤ 16:=hxt.2
          have HXk:=kp (HQr.out.ok.svs x hxm)
          have hXl : x.sv.stack.length = x.sv.len:=HXk.out.row.len
          have hl16 : x.sv.len ≤ 16:=by omega
          have HSlo : Kept (∀ s ∈ x.slots,s ≤ 8):=kp (HG.out.slot (tvT x) (List.mem_map_of_mem hxm))
          have HXm:=kp hxm
          have HSpo : Kept (∀ f ∈ x.sv.stack,f.1 < 16 ∧ f.2 < 64):=kp (fun f hfm => by
            obtain ⟨fn,h1,h2⟩:=HG.out.spot (tvT x) (List.mem_map_of_mem hxm) f hfm
            have h3:=(List.getElem?_eq_some_iff.1 h1).1
            have h4:=(Q.fine_fn h1 (HFine.out.nodes f.1 h3)).2.1
            have h5:=HFine.out.counts.f.2
            omega)
          have HCx : Kept (∀ i v,(tvC x)[i]? = some v → wr.cell? ((ad.add (j * 9)).add i) = some v):=kp (fun i v h => by
            obtain ⟨hi,hv⟩:=YD HX8.out h
            rw [add_add,← hv]
            exact hc i hi)
          have HNx : Kept (K.keyTs p ((q.tvs.map tvT).take (j + 1)) = K.keyTs p ((q.tvs.map tvT).take j) ++ (x.slots.take S ++ (x.sv.len :: K.two x.sv.stack))):=kp (by
            rw [List.take_add_one,List.getElem?_map,hx,Option.map_some,Option.toList_some,K.keyTs_snoc,← hXl,← HSn.out];rfl)
          obtain ⟨pre,hpre⟩ : ∃ pre,bs ++ (q.ow.take L ++ K.keyTs p ((q.tvs.map tvT).take j)) = pre:=⟨_,rfl⟩
          have HN : Kept (bs ++ (q.ow.take L ++ K.keyTs p ((q.tvs.map tvT).take (j + 1))) = pre ++ (x.slots.take S ++ (x.sv.len :: K.two x.sv.stack))):=kp (by rw [HNx.out,← hpre];simp only [List.append_assoc])
          rw [hpre] at HLp HOr
          obtain ⟨vB,rfl⟩ : ∃ x,x = u0:=⟨_,rfl⟩
          obtain ⟨wB,rfl⟩ : ∃ x,x = wr:=⟨_,rfl⟩
          have HNB : Kept (∀ k,vB.ownBlock = some k → k < wB.heap.size):=kp fun k hk => (HOr.out.block k hk).2
          have hc2 : wB.cell? ⟨g4,2,none⟩ = some (.int .i64 (S : Int)):=by rw [HK4r.out.cell 2,HPc.out];rfl
          have hl4 : g4 < wB.heap.size:=HK4r.out.lt
          rw [hA]
          clear hx hc hxm hxt hX8 hst hpre HNx hA
          have hslx:=HSl.out
          go_wp2_with (first
            | ((with_reducible show Sl 36);go_must (refine jM rfl 94 (.tmp 35) rfl (ad.add (j * 9)) rfl (tvC x) _ HCx.out Try.underlying94 rfl (by rw [qA HX8.out];exact lI) ?_))
            | ((with_reducible show Sl 10);go_must (refine j3 rfl 94 rfl _ xY ?_);intro g10 w3 hg10 hk3 hw3;have HK3:=kp hk3;have HL3:=kp hw3;have hs3:=hw3.size;clear hk3 hw3)
            | ((with_reducible show Sn);(refine j4 rfl 94 (.tmp 10) (.tmp 36) rfl g10 (tvC x) rfl rfl _ _ HK3.out (by rw [qA HX8.out];exact lI) (by rw [qA HX8.out];rfl) (JF x) ?_);intro w4 hk4 hg4' hz4
               have HK10:=kp hk4;have HL4:=kp (HL3.out.grown hg4' hs3 (fun k e => by cases e;exact hg10));have hs4:=HL4.out.size
               have HO4:=kp (HOr.out.below HL4.out (Nat.le_refl _));have HG4:=kp (HGr.out.then HL4.out);have HK44:=kp (HK4r.out.below HL4.out hl4)
               have hc2 : w4.cell? ⟨g4,2,none⟩ = some (.int .i64 (S : Int)):=(by rw [HK44.out.cell 2,HPc.out];rfl)
               clear hk4 hg4' hz4))
          have hBB : B ≤ wB.heap.size:=by omega
          have hN10 : ∀ k,vB.ownBlock = some k → k ≠ g10:=fun k hk e => by have:=HNB.out k hk;omega
          have HN10:=kp hN10
          clear hc2 hslx hN10
          go_loopw [0,42] (fun v0 v42 wr => ∃ i : Nat,i ≤ S ∧ v42 = .int .i64 i ∧ Own wr B 5 v0 ((pre ++ x.slots.take i).map byteV) ∧ Grew w4 wr vB v0) (fun _ v42 _ => S - (intOf v42).toNat)
          case atStart => exact ⟨0,by omega,rfl,by simpa using HO4.out,Grew.refl _ _⟩
          case round =>
            clear HO4
            obtain ⟨i,hi,rfl,hor,hgr⟩:=hrel
            have HOi:=kp hor;have HGi:=kp hgr;have hsi:=hgr.size
            have HK10i:=kp (HK10.out.grew hgr (fun e => HN10.out _ e rfl))
            clear hor hgr
            by_cases hlt3 : i < S
            · have hxi : i < x.slots.length:=by have:=HX8.out;omega
              obtain ⟨y,hyy⟩ : ∃ y,x.slots[i]? = some y:=⟨_,List.getElem?_eq_getElem hxi⟩
              have hyb : y ≤ 8:=HSlo.out y (List.mem_of_getElem? hyy)
              have hcy : wr.cell? ⟨g10,1 + i,none⟩ = some (.int .i64 (y : Int)):=by rw [HK10i.out.cell,Nat.add_comm,tvC,List.getElem?_cons_succ,List.getElem?_map,hyy];rfl
              have HLl : Kept (((pre ++ x.slots.take i).map byteV).length ≤ 1410):=kp (by have:=HLp.out;rw [List.length_map,List.length_append,List.length_take];omega)
              have HE : Kept ((pre ++ x.slots.take i).map byteV ++ [byteV y] = (pre ++ x.slots.take (i + 1)).map byteV):=kp (by rw [List.take_add_one,hyy];simp)
              obtain ⟨xs,hxs⟩ : ∃ xs,(pre ++ x.slots.take i).map byteV = xs:=⟨_,rfl⟩
              rw [hxs] at HLl HE HOi
              clear hyy hxi hxs
              go_wp2_with (at_builtin;go_must (refine q8 rfl (.tmp 46) (.tmp 49) 59 rfl B 5 _ _ Try.underlying59 zS rfl wr _ xs _ rfl HOi.out _ 1 rfl rfl rfl (by have:=HLl.out;simp [maxLen];omega) (by have:=HLl.out;simp;omega) (by omega) ?_);intro v1 w5 hown hg;have HO5:=kp hown;have HG5:=kp (HGi.out.trans hg);clear hown hg)
              go_roundw
              case rel => exact ⟨i + 1,by omega,by go_num,by rw [← HE.out];exact HO5.out,HG5.out⟩
              case measure => simp [intOf];omega
            · have hiS : i = S:=by omega
              subst hiS
              have hc10 : wr.cell? ⟨g10,0,none⟩ = some (.slice x.sv.A x.sv.len x.sv.cap):=HK10i.out.cell 0
              obtain ⟨n,hn⟩ : ∃ n,x.sv.len = n:=⟨_,rfl⟩
              have HNn:=kp hn
              rw [hn] at hl16 hXl hc10 HN
              have HSl5 : Kept ((pre ++ x.slots.take i).length ≤ 1410):=kp (by have:=HLp.out;rw [List.length_append,List.length_take];omega)
              clear hlt3 hn
              obtain ⟨pr2,hpr2⟩ : ∃ pr2,pre ++ x.slots.take i = pr2:=⟨_,rfl⟩
              have HN2 : Kept (bs ++ (q.ow.take L ++ K.keyTs p ((q.tvs.map tvT).take (j + 1))) = pr2 ++ (n :: K.two x.sv.stack)):=kp (by rw [HN.out,← hpr2];simp only [List.append_assoc])
              rw [hpr2] at HOi HSl5
              clear hpr2
              obtain ⟨vC,rfl⟩ : ∃ x,x = u0:=⟨_,rfl⟩
              obtain ⟨wC,rfl⟩ : ∃ x,x = wr:=⟨_,rfl⟩
              go_wp2_with (at_builtin;go_must (refine q8 rfl (.tmp 52) (.tmp 57) 59 rfl B 5 _ _ Try.underlying59 zS rfl wC _ (pr2.map byteV) _ rfl HOi.out _ 1 rfl rfl rfl (by have:=HSl5.out;simp [maxLen];omega) (by have:=HSl5.out;simp;omega) (by omega) ?_);intro vD wD hown hg;have HOD : Kept (Own wD B 5 vD ((pr2 ++ [n]).map byteV)):=kp (by rw [List.map_append];exact hown);have HGD:=kp (HGi.out.trans hg);have HK10D:=kp (HK10.out.grew HGD.out (fun e => HN10.out _ e rfl));have hc10 : wD.cell? ⟨g10,0,none⟩ = some (.slice x.sv.A x.sv.len x.sv.cap):=(by rw [HK10D.out.cell 0];rfl);rw [HNn.out] at hc10;have hsD:=HGD.out.size;clear hown hg)
              go_loopw [0,62] (fun v0 v62 wr => ∃ k : Nat,k ≤ n ∧ v62 = .int .i64 k ∧ Own wr B 5 v0 ((pr2 ++ (n :: K.two (x.sv.stack.take k))).map byteV) ∧ Grew w4 wr vB v0) (fun _ v62 _ => n - (intOf v62).toNat)
              case atStart => exact ⟨0,by omega,rfl,HOD.out,HGD.out⟩
              case round =>
                clear HOD HGD hsD hc10 HK10D
                obtain ⟨k,hk,rfl,hor,hgr⟩:=hrel
                have HOk:=kp hor;have HGk:=kp hgr;have hsk:=hgr.size
                have hgr2:=HG4.out.trans hgr
                have HQk:=kp (HQ2.out.grew (HO.out.below HW2.out (Nat.le_refl _)) hgr2 (by decide) (by decide))
                have HGk2:=kp hgr2
                clear hor hgr hgr2
                by_cases hlt4 : k < n
                · obtain ⟨ad,f,hA,had,hf,hc⟩:=((HQk.out.ok.svs x HXm.out).row).get (by rw [HNn.out];exact hlt4)
                  have hfs:=HSpo.out f (List.mem_of_getElem? hf)
                  have HCf : Kept (∀ i v,([.int .i64 (f.1 : Int),.int .i64 (f.2 : Int)] : List Value)[i]? = some v → wr.cell? ((ad.add (k * 2)).add i) = some v):=kp (fun i v h => by
                    rcases i with _ | _ | i
                    · rw [add_add,hc 0 (by omega),← h];rfl
                    · rw [add_add,hc 1 (by omega),← h];rfl
                    · simp at h)
                  have HLl : Kept ((pr2 ++ (n :: K.two (x.sv.stack.take k))).length ≤ 1450):=kp (by have:=HSl5.out;rw [List.length_append,List.length_cons,K.two_len,List.length_take];omega)
                  have HE : Kept ((pr2 ++ (n :: K.two (x.sv.stack.take k))).map byteV ++ [f.1,f.2].map byteV = (pr2 ++ (n :: K.two (x.sv.stack.take (k + 1)))).map byteV):=kp (by
                    rw [List.take_add_one,hf,Option.toList_some,K.two_snoc,← List.map_append,List.append_assoc,List.cons_append])
                  obtain ⟨a,b⟩:=f
                  obtain ⟨ha16,hb64⟩:=hfs
                  have ha : a < 256:=by have : a < 16:=ha16;omega
                  have hb : b < 256:=by have : b < 64:=hb64;omega
                  obtain ⟨xs,hxs⟩ : ∃ xs,pr2 ++ (n :: K.two (x.sv.stack.take k)) = xs:=⟨_,rfl⟩
                  rw [hxs] at HLl HE HOk
                  have HNk : Kept (∀ z,u0.ownBlock = some z → z < wr.heap.size):=kp fun z hz => (HOk.out.block z hz).2
                  rw [hA]
                  clear hf hc hxs ha16 hb64
                  go_wp2_with (first
                    | ((with_reducible show Sl 65);go_must (refine jM rfl 133 (.tmp 64) rfl (ad.add (k * 2)) rfl [.int .i64 (a : Int),.int .i64 (b : Int)] _ HCf.out Try.underlying133 rfl u9 ?_))
                    | ((with_reducible show Sl 14);go_must (refine j3 rfl 133 rfl _ QU ?_);intro g14 w6 hg14 hk6 hw6;have HK6:=kp hk6;have HL6:=kp hw6;have hs6:=hw6.size;clear hk6 hw6)
                    | ((with_reducible show Sn);(refine j4 rfl 133 (.tmp 14) (.tmp 65) rfl g14 [.int .i64 (a : Int),.int .i64 (b : Int)] rfl rfl _ _ HK6.out u9 rfl (by simp [Value.oneCell']) ?_);intro w7 hk7 hg7 hz7
                       have HL7:=kp (HL6.out.grown hg7 hs6 (fun k e => by cases e;exact hg14));have hs7:=HL7.out.size
                       have HO7:=kp (HOk.out.below HL7.out (Nat.le_refl _));have HG7:=kp (HGk.out.then HL7.out)
                       have hd0 : w7.cell? ⟨g14,0,none⟩ = some (.int .i64 (a : Int)):=hk7.cell 0
                       have hd1 : w7.cell? ⟨g14,1,none⟩ = some (.int .i64 (b : Int)):=hk7.cell 1
                       clear hk7 hg7 hz7)
                    | (at_builtin;go_must (refine vM rfl (.tmp 66) (.tmp 73) 59 rfl B 5 _ _ Try.underlying59 zS rfl _ _ (xs.map byteV) rfl (World.ownsRow.alloc HO7.out _) _ 2 2 _ _ rfl (Row.made byteV w7 [a,b] _ rfl _).vals (ones _ one_byteV _) (by have:=HLl.out;simp [maxLen];omega) (by have:=HLl.out;simp;omega) (by simp;omega) ?_);intro v8 w8 hown hg;have HO8:=kp hown;have HG8:=kp (HG7.out.trans (hg.new (by exact (Below.refl _ _).alloc (Nat.le_refl _) _)));clear hown hg))
                  go_roundw
                  case rel => exact ⟨k + 1,by omega,by go_num,by rw [← HE.out];exact HO8.out,HG8.out⟩
                  case measure => simp [intOf];omega
                · have hkn : n = k:=by omega
                  subst hkn
                  have HOe : Kept (Own wr B 5 u0 ((bs ++ (q.ow.take L ++ K.keyTs p ((q.tvs.map tvT).take (j + 1)))).map byteV)):=kp (by
                    rw [HN2.out]
                    have h:=HOk.out
                    rw [List.take_of_length_le (by omega)] at h
                    exact h)
                  have HGe:=kp (HG4.out.trans HGk.out)
                  clear hlt4 HOk
                  go_wp2
                  go_roundw
                  case rel => exact ⟨j + 1,by omega,by go_num,HOe.out,HGe.out⟩
                  case measure => simp [intOf];omega
        · have hjn : j = q.len:=by omega
          have HOe : Kept (Own wr B 5 u0 ((bs ++ K.key p q.cf).map byteV)):=kp (by
            have h:=HOr.out
            rw [hjn,← HTl.out,← List.length_map (f:=tvT),List.take_length] at h
            rw [HKey.out];exact h)
          have HGe : Kept (Grew w wr v u0):=kp (HGr.out.new HW2.out)
          clear hlt HOr
          go_wp2
          go_ret
          exact ⟨u0,rfl,HOe.out,HGe.out⟩
end Go.Proofs.Ytnaomfmmkhgbhaa
