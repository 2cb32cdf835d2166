/- SeekP1, TailRow, SeekM. -/
import Derived.Test.YtcbfghcdbmlneaaPk30
import Derived.Test.YtcbfghcdbmlneaaPk4
import Derived.Test.YtcbfghcdbmlneaaPk2
import Derived.Maps.OwnOps
import Derived.Maps.Views
namespace Go.Proofs.Ytcbfghcdbmlneaa
open Go.RowKit
theorem Y8 : (Try.prog.info? 175).map (·.zero) = some (some (.agg ([.int .i64 0,.int .i64 0] : List Value).toArray)):=by kernel_rfl
theorem J3 : (Try.prog.info? 175).map (·.size) = some 2:=by kernel_rfl
theorem vP {P : Program} (ty e : TypeId) (n : Nat) (hu : P.underlying ty = some (.array n e)) (hsz : (P.info? e).map (·.size) = some 1) (g off m : Nat) (hm : m ≤ n) (w : World) :
    (Instr.sliceAt ty (.pointer (some ⟨g,off,none⟩)) none (some (.int .i64 (m : Int))) none).run P w = .ok (.slice (some ⟨g,off,none⟩) m n) w:=by
  have hel : P.elem ty = e:=by simp [Program.elem,hu]
  have hal : P.arrayLen ty = n:=by simp [Program.arrayLen,hu]
  rw [run_sliceAt_array_h (P:=P) w ty ⟨g,off,none⟩ (by rw [hel,hal];exact hu) .i64 (m : Int) (by omega) (by rw [hal];omega)]
  cases hq : P.info? e with
  | none => simp [hq] at hsz
  | some ie =>
    have hs : ie.size = 1:=by simpa [hq] using hsz
    simp [hel,hal,sizeOf,typeInfo,hq,hs,slicedAt,Addr.add,Result.andThen]
set_option maxRecDepth 100000 in
set_option maxHeartbeats 3200000 in
theorem sk_key (B Bq : Nat) (p : Pg) (hf : Fine p) (hl : p.fns.length = p.len) (q : Pc) (w : World) (v : Value) (bs : List Nat) (hq : Mine w Bq q) (hg : M.Good p q.cf) (ho : Own w B 5 v (bs.map byteV)) (hbs : bs.length ≤ 1000) (hB : B ≤ w.heap.size) :
    Calls Try.prog 77 #[v,pgA p,pcA q] w fun e w' => ∃ v',e = .returned v' ∧ Own w' B 5 v' ((bs ++ K.key p q.cf).map byteV) ∧ Grew w w' v v':=by
  have hcl:=hf.counts.l;have hcs:=hf.counts.s
  obtain ⟨L,hL⟩ : ∃ L : Nat,p.l = L:=⟨p.l.toNat,by omega⟩
  obtain ⟨S,hS⟩ : ∃ S : Nat,p.s = S:=⟨p.s.toNat,by omega⟩
  have hL16 : L ≤ 16:=by omega
  have hS8 : S ≤ 8:=by omega
  have HPc : Kept (pgC p = [.int .i64 p.g,.int .i64 (L : Int),.int .i64 (S : Int),.slice p.A p.len p.cap]):=kp (by unfold pgC;rw [hL,hS])
  have HLn : Kept (p.l.toNat = L):=kp (by omega)
  have HSn : Kept (p.s.toNat = S):=kp (by omega)
  have HQ17:=kp (jW hg.owns)
  have HO16 : Kept (q.ow.length = 16):=kp hg.owns
  have HQ:=kp hq;have HO:=kp ho;have HG:=kp hg
  clear hcl hcs hL hS hq hg ho
  rw [jL,qS]
  obtain ⟨pc,hpc⟩ : ∃ pc,pgC p = pc:=⟨_,rfl⟩
  have HPE:=kp hpc
  rw [hpc] at HPc ⊢
  clear hpc
  have hsl : ∀ (g5 : Nat) (W : World),(Instr.sliceAt 61 (.pointer (some ⟨g5,1,none⟩)) none (some (.int .i64 (L : Int))) none).run Try.prog W = .ok (.slice (some ⟨g5,1,none⟩) L 16) W:=fun g5 W => vP 61 3 16 Try.underlying61 lS g5 1 L hL16 W
  have HSl : Kept (∀ (g5 : Nat) (W : World),(Instr.sliceAt 149 (.pointer (some ⟨g5,1,none⟩)) none (some (.int .i64 (S : Int))) none).run Try.prog W = .ok (.slice (some ⟨g5,1,none⟩) S 8) W):=kp fun g5 W => vP 149 3 8 Try.underlying149 lS g5 1 S hS8 W
  have HKey : Kept (K.key p q.cf = q.ow.take L ++ K.keyTs p (q.tvs.map tvT)):=kp (by rw [← HLn.out];rfl)
  have HTh : Kept (∀ x ∈ q.tvs.map tvT,x.slots.length = 8 ∧ x.stack.length ≤ 16):=kp fun x hx => ⟨HG.out.eight x hx,by have:=M.high hf hl HG.out hx;have:=hf.counts.f.2;omega⟩
  have HFine:=kp hf
  clear hl hf
  go_enter Try.func77,Try.ntmps77
  go_wp2_with (first
    | ((with_reducible refine j6 rfl 46 (.tmp 1) rfl pc rfl ?_);intro g4 w1 hg4 hk1 hw1;have HK4:=kp hk1;have HW1:=kp hw1;have hs1:=hw1.size;have hl1:=hk1.lt;clear hk1 hw1)
    | ((with_reducible refine j6 rfl 91 (.tmp 2) rfl (pcC q) rfl ?_);intro g5 w2 hg5 hk2 hw2;have HK5:=kp hk2;have HK4b:=kp (HK4.out.below hw2 hl1);have HW2:=kp (HW1.out.trans (hw2.mono hs1));have hs2:=HW2.out.size;have hc1 : w2.cell? ⟨g4,1,none⟩ = some (.int .i64 (L : Int)):=(by rw [HK4b.out.cell 1,HPc.out];rfl);have hc0 : w2.cell? ⟨g5,0,none⟩ = some (.slice q.A q.len q.cap):=HK5.out.cell 0;clear hk2 hw2))
  have HO2:=kp (HO.out.below HW2.out (Nat.le_refl _));have HQ2:=kp (HQ.out.below HW2.out (Nat.le_refl _))
  have HN5 : Kept (∀ k,v.ownBlock = some k → k < w.heap.size):=kp fun k hk => (HO.out.block k hk).2
  have hB2 : B ≤ w2.heap.size:=by omega
  clear hsl hc1 hc0
  go_loopw [0,20] (fun v0 v20 wr => ∃ i : Nat,i ≤ L ∧ v20 = .int .i64 i ∧ Own wr B 5 v0 ((bs ++ q.ow.take i).map byteV) ∧ Grew w2 wr v v0) (fun _ v20 _ => L - (intOf v20).toNat)
  case atStart => exact ⟨0,by omega,rfl,by simpa using HO2.out,Grew.refl _ _⟩
  case round =>
    clear HO2
    obtain ⟨i,hi,rfl,hor,hgr⟩:=hrel
    have HOr:=kp hor;have HGr:=kp hgr;have hsr:=hgr.size
    have HK5r:=kp (HK5.out.grew hgr (fun e => by have:=HN5.out _ e;omega));have HK4r:=kp (HK4b.out.grew hgr (fun e => by have:=HN5.out _ e;omega))
    clear hor hgr
    by_cases hlt : i < L
    · have hx : i < q.ow.length:=by have:=HO16.out;omega
      obtain ⟨x,hxx⟩ : ∃ x,q.ow[i]? = some x:=⟨_,List.getElem?_eq_getElem hx⟩
      have hxb : x ≤ 8:=by have h1:=HG.out.own x (List.mem_of_getElem? hxx);have h2:=HG.out.most;omega
      have hcx : wr.cell? ⟨g5,1 + i,none⟩ = some (.int .i64 (x : Int)):=by rw [HK5r.out.cell,Nat.add_comm,pcC,List.getElem?_cons_succ,List.getElem?_map,hxx];rfl
      have HLl : Kept (((bs ++ q.ow.take i).map byteV).length ≤ 1100):=kp (by rw [List.length_map,List.length_append,List.length_take];omega)
      have HE : Kept ((bs ++ q.ow.take i).map byteV ++ [byteV x] = (bs ++ q.ow.take (i + 1)).map byteV):=kp (by rw [List.take_add_one,hxx];simp)
      obtain ⟨xs,hxs⟩ : ∃ xs,(bs ++ q.ow.take i).map byteV = xs:=⟨_,rfl⟩
      rw [hxs] at HLl HE HOr
      clear hxx hx hxs
      go_wp2_with (at_builtin;go_must (refine lH rfl (.tmp 24) (.tmp 27) 26 rfl B 5 _ _ Try.underlying26 lG rfl wr _ xs _ rfl HOr.out _ 1 rfl rfl rfl (by have:=HLl.out;simp [maxLen];omega) (by have:=HLl.out;simp;omega) (by omega) ?_);intro v1 w3 hown hg;have HO3:=kp hown;have HG3:=kp (HGr.out.trans hg);clear hown hg)
      go_roundw
      case rel => exact ⟨i + 1,by omega,by go_num,by rw [← HE.out];exact HO3.out,HG3.out⟩
      case measure => simp [intOf];omega
    · have hiL : L = i:=by omega
      subst hiL
      have HOs:=kp HOr.out
      have HQr:=kp (HQ2.out.grew (HO.out.below HW2.out (Nat.le_refl _)) HGr.out (by decide) (by decide))
      have hc0 : wr.cell? ⟨g5,0,none⟩ = some (.slice q.A q.len q.cap):=HK5r.out.cell 0
      clear hlt HOr
      go_wp2
      obtain ⟨wA,rfl⟩ : ∃ x,x = wr:=⟨_,rfl⟩
      obtain ⟨vA,rfl⟩ : ∃ x,x = u0:=⟨_,rfl⟩
      have hq8 : q.len ≤ 8:=by rw [← HQr.out.ok.len];exact HG.out.most
      have HTl : Kept (q.tvs.length = q.len):=kp HQr.out.ok.row.len
      have hNA : ∀ k,vA.ownBlock = some k → k < wA.heap.size:=fun k hk => (HOs.out.block k hk).2
      go_loopw [0,33] (fun v0 v33 wr => ∃ j : Nat,j ≤ q.len ∧ v33 = .int .i64 j ∧ Own wr B 5 v0 ((bs ++ (q.ow.take L ++ K.keyTs p ((q.tvs.map tvT).take j))).map byteV) ∧ Grew w2 wr v v0) (fun _ v33 _ => q.len - (intOf v33).toNat)
      case atStart => exact ⟨0,by omega,rfl,by simpa [K.keyTs] using HOs.out,HGr.out⟩
      case round =>
        clear HOs HK5r HK4r HQr hsr HGr
        obtain ⟨j,hj,rfl,hor,hgr⟩:=hrel
        have HOr:=kp hor;have HGr:=kp hgr;have hsr:=hgr.size
        have HK4r:=kp (HK4b.out.grew hgr (fun e => by have:=HN5.out _ e;omega))
        have HQr:=kp (HQ2.out.grew (HO.out.below HW2.out (Nat.le_refl _)) hgr (by decide) (by decide))
        have HLp : Kept ((bs ++ (q.ow.take L ++ K.keyTs p ((q.tvs.map tvT).take j))).length ≤ 1400):=kp (by
          have h1:=K.keyTs_len (p:=p) (l:=(q.tvs.map tvT).take j) (fun x hx => HTh.out x (List.mem_of_mem_take hx))
          rw [List.length_take] at h1
          rw [List.length_append,List.length_append,List.length_take];omega)
        clear hor hgr
        by_cases hlt : j < q.len
        · obtain ⟨ad,x,hA,had,hx,hc⟩:=HQr.out.ok.row.get hlt
          have hxm:=List.mem_of_getElem? hx
          have hxt:=HTh.out (tvT x) (List.mem_map_of_mem hxm)
          have hX8 : x.slots.length = 8:=hxt.1
          have HX8:=kp hX8
          have hst : x.sv.stack.length ≤ 16:=hxt.2
          have HXk:=kp (HQr.out.ok.svs x hxm)
          have hXl : x.sv.stack.length = x.sv.len:=HXk.out.row.len
          have hl16 : x.sv.len ≤ 16:=by omega
          have HSlo : Kept (∀ s ∈ x.slots,s ≤ 8):=kp (HG.out.slot (tvT x) (List.mem_map_of_mem hxm))
          have HXm:=kp hxm
          have HSpo : Kept (∀ f ∈ x.sv.stack,f.1 < 16 ∧ f.2 < 64):=kp (fun f hfm => by
            obtain ⟨fn,h1,h2⟩:=HG.out.spot (tvT x) (List.mem_map_of_mem hxm) f hfm
            have h3:=(List.getElem?_eq_some_iff.1 h1).1
            have h4:=(Q.fine_fn h1 (HFine.out.nodes f.1 h3)).2.1
            have h5:=HFine.out.counts.f.2
            omega)
          have HCx : Kept (∀ i v,(tvC x)[i]? = some v → wr.cell? ((ad.add (j * 9)).add i) = some v):=kp (fun i v h => by
            obtain ⟨hi,hv⟩:=tvC_at HX8.out h
            rw [add_add,← hv]
            exact hc i hi)
          have HNx : Kept (K.keyTs p ((q.tvs.map tvT).take (j + 1)) = K.keyTs p ((q.tvs.map tvT).take j) ++ (x.slots.take S ++ (x.sv.len :: K.two x.sv.stack))):=kp (by
            rw [List.take_add_one,List.getElem?_map,hx,Option.map_some,Option.toList_some,K.keyTs_snoc,← hXl,← HSn.out];rfl)
          obtain ⟨pre,hpre⟩ : ∃ pre,bs ++ (q.ow.take L ++ K.keyTs p ((q.tvs.map tvT).take j)) = pre:=⟨_,rfl⟩
          have HN : Kept (bs ++ (q.ow.take L ++ K.keyTs p ((q.tvs.map tvT).take (j + 1))) = pre ++ (x.slots.take S ++ (x.sv.len :: K.two x.sv.stack))):=kp (by rw [HNx.out,← hpre];simp only [List.append_assoc])
          rw [hpre] at HLp HOr
          obtain ⟨vB,rfl⟩ : ∃ x,x = u0:=⟨_,rfl⟩
          obtain ⟨wB,rfl⟩ : ∃ x,x = wr:=⟨_,rfl⟩
          have HNB : Kept (∀ k,vB.ownBlock = some k → k < wB.heap.size):=kp fun k hk => (HOr.out.block k hk).2
          have hc2 : wB.cell? ⟨g4,2,none⟩ = some (.int .i64 (S : Int)):=by rw [HK4r.out.cell 2,HPc.out];rfl
          have hl4 : g4 < wB.heap.size:=HK4r.out.lt
          rw [hA]
          clear hx hc hxm hxt hX8 hst hpre HNx hA
          have hslx:=HSl.out
          go_wp2_with (first
            | ((with_reducible show Sl 36);go_must (refine qK rfl 155 (.tmp 35) rfl (ad.add (j * 9)) rfl (tvC x) _ HCx.out Try.underlying155 rfl (by rw [LG HX8.out];exact yH) ?_))
            | ((with_reducible show Sl 10);go_must (refine j7 rfl 155 rfl _ JR ?_);intro g10 w3 hg10 hk3 hw3;have HK3:=kp hk3;have HL3:=kp hw3;have hs3:=hw3.size;clear hk3 hw3)
            | ((with_reducible show Sn);(refine j5 rfl 155 (.tmp 10) (.tmp 36) rfl g10 (tvC x) rfl rfl _ _ HK3.out (by rw [LG HX8.out];exact yH) (by rw [LG HX8.out];rfl) (tvC_ones x) ?_);intro w4 hk4 hg4' hz4
               have HK10:=kp hk4;have HL4:=kp (HL3.out.grown hg4' hs3 (fun k e => by cases e;exact hg10));have hs4:=HL4.out.size
               have HO4:=kp (HOr.out.below HL4.out (Nat.le_refl _));have HG4:=kp (HGr.out.then HL4.out);have HK44:=kp (HK4r.out.below HL4.out hl4)
               have hc2 : w4.cell? ⟨g4,2,none⟩ = some (.int .i64 (S : Int)):=(by rw [HK44.out.cell 2,HPc.out];rfl)
               clear hk4 hg4' hz4))
          have hBB : B ≤ wB.heap.size:=by omega
          have hN10 : ∀ k,vB.ownBlock = some k → k ≠ g10:=fun k hk e => by have:=HNB.out k hk;omega
          have HN10:=kp hN10
          clear hc2 hslx hN10
          go_loopw [0,42] (fun v0 v42 wr => ∃ i : Nat,i ≤ S ∧ v42 = .int .i64 i ∧ Own wr B 5 v0 ((pre ++ x.slots.take i).map byteV) ∧ Grew w4 wr vB v0) (fun _ v42 _ => S - (intOf v42).toNat)
          case atStart => exact ⟨0,by omega,rfl,by simpa using HO4.out,Grew.refl _ _⟩
          case round =>
            clear HO4
            obtain ⟨i,hi,rfl,hor,hgr⟩:=hrel
            have HOi:=kp hor;have HGi:=kp hgr;have hsi:=hgr.size
            have HK10i:=kp (HK10.out.grew hgr (fun e => HN10.out _ e rfl))
            clear hor hgr
            by_cases hlt3 : i < S
            · have hxi : i < x.slots.length:=by have:=HX8.out;omega
              obtain ⟨y,hyy⟩ : ∃ y,x.slots[i]? = some y:=⟨_,List.getElem?_eq_getElem hxi⟩
              have hyb : y ≤ 8:=HSlo.out y (List.mem_of_getElem? hyy)
              have hcy : wr.cell? ⟨g10,1 + i,none⟩ = some (.int .i64 (y : Int)):=by rw [HK10i.out.cell,Nat.add_comm,tvC,List.getElem?_cons_succ,List.getElem?_map,hyy];rfl
              have HLl : Kept (((pre ++ x.slots.take i).map byteV).length ≤ 1410):=kp (by have:=HLp.out;rw [List.length_map,List.length_append,List.length_take];omega)
              have HE : Kept ((pre ++ x.slots.take i).map byteV ++ [byteV y] = (pre ++ x.slots.take (i + 1)).map byteV):=kp (by rw [List.take_add_one,hyy];simp)
              obtain ⟨xs,hxs⟩ : ∃ xs,(pre ++ x.slots.take i).map byteV = xs:=⟨_,rfl⟩
              rw [hxs] at HLl HE HOi
              clear hyy hxi hxs
              go_wp2_with (at_builtin;go_must (refine lH rfl (.tmp 46) (.tmp 49) 26 rfl B 5 _ _ Try.underlying26 lG rfl wr _ xs _ rfl HOi.out _ 1 rfl rfl rfl (by have:=HLl.out;simp [maxLen];omega) (by have:=HLl.out;simp;omega) (by omega) ?_);intro v1 w5 hown hg;have HO5:=kp hown;have HG5:=kp (HGi.out.trans hg);clear hown hg)
              go_roundw
              case rel => exact ⟨i + 1,by omega,by go_num,by rw [← HE.out];exact HO5.out,HG5.out⟩
              case measure => simp [intOf];omega
            · have hiS : i = S:=by omega
              subst hiS
              have hc10 : wr.cell? ⟨g10,0,none⟩ = some (.slice x.sv.A x.sv.len x.sv.cap):=HK10i.out.cell 0
              obtain ⟨n,hn⟩ : ∃ n,x.sv.len = n:=⟨_,rfl⟩
              have HNn:=kp hn
              rw [hn] at hl16 hXl hc10 HN
              have HSl5 : Kept ((pre ++ x.slots.take i).length ≤ 1410):=kp (by have:=HLp.out;rw [List.length_append,List.length_take];omega)
              clear hlt3 hn
              obtain ⟨pr2,hpr2⟩ : ∃ pr2,pre ++ x.slots.take i = pr2:=⟨_,rfl⟩
              have HN2 : Kept (bs ++ (q.ow.take L ++ K.keyTs p ((q.tvs.map tvT).take (j + 1))) = pr2 ++ (n :: K.two x.sv.stack)):=kp (by rw [HN.out,← hpr2];simp only [List.append_assoc])
              rw [hpr2] at HOi HSl5
              clear hpr2
              obtain ⟨vC,rfl⟩ : ∃ x,x = u0:=⟨_,rfl⟩
              obtain ⟨wC,rfl⟩ : ∃ x,x = wr:=⟨_,rfl⟩
              go_wp2_with (at_builtin;go_must (refine lH rfl (.tmp 52) (.tmp 57) 26 rfl B 5 _ _ Try.underlying26 lG rfl wC _ (pr2.map byteV) _ rfl HOi.out _ 1 rfl rfl rfl (by have:=HSl5.out;simp [maxLen];omega) (by have:=HSl5.out;simp;omega) (by omega) ?_);intro vD wD hown hg;have HOD : Kept (Own wD B 5 vD ((pr2 ++ [n]).map byteV)):=kp (by rw [List.map_append];exact hown);have HGD:=kp (HGi.out.trans hg);have HK10D:=kp (HK10.out.grew HGD.out (fun e => HN10.out _ e rfl));have hc10 : wD.cell? ⟨g10,0,none⟩ = some (.slice x.sv.A x.sv.len x.sv.cap):=(by rw [HK10D.out.cell 0];rfl);rw [HNn.out] at hc10;have hsD:=HGD.out.size;clear hown hg)
              go_loopw [0,62] (fun v0 v62 wr => ∃ k : Nat,k ≤ n ∧ v62 = .int .i64 k ∧ Own wr B 5 v0 ((pr2 ++ (n :: K.two (x.sv.stack.take k))).map byteV) ∧ Grew w4 wr vB v0) (fun _ v62 _ => n - (intOf v62).toNat)
              case atStart => exact ⟨0,by omega,rfl,HOD.out,HGD.out⟩
              case round =>
                clear HOD HGD hsD hc10 HK10D
                obtain ⟨k,hk,rfl,hor,hgr⟩:=hrel
                have HOk:=kp hor;have HGk:=kp hgr;have hsk:=hgr.size
                have hgr2:=HG4.out.trans hgr
                have HQk:=kp (HQ2.out.grew (HO.out.below HW2.out (Nat.le_refl _)) hgr2 (by decide) (by decide))
                have HGk2:=kp hgr2
                clear hor hgr hgr2
                by_cases hlt4 : k < n
                · obtain ⟨ad,f,hA,had,hf,hc⟩:=((HQk.out.ok.svs x HXm.out).row).get (by rw [HNn.out];exact hlt4)
                  have hfs:=HSpo.out f (List.mem_of_getElem? hf)
                  have HCf : Kept (∀ i v,([.int .i64 (f.1 : Int),.int .i64 (f.2 : Int)] : List Value)[i]? = some v → wr.cell? ((ad.add (k * 2)).add i) = some v):=kp (fun i v h => by
                    rcases i with _ | _ | i
                    · rw [add_add,hc 0 (by omega),← h];rfl
                    · rw [add_add,hc 1 (by omega),← h];rfl
                    · simp at h)
                  have HLl : Kept ((pr2 ++ (n :: K.two (x.sv.stack.take k))).length ≤ 1450):=kp (by have:=HSl5.out;rw [List.length_append,List.length_cons,K.two_len,List.length_take];omega)
                  have HE : Kept ((pr2 ++ (n :: K.two (x.sv.stack.take k))).map byteV ++ [f.1,f.2].map byteV = (pr2 ++ (n :: K.two (x.sv.stack.take (k + 1)))).map byteV):=kp (by
                    rw [List.take_add_one,hf,Option.toList_some,K.two_snoc,← List.map_append,List.append_assoc,List.cons_append])
                  obtain ⟨a,b⟩:=f
                  obtain ⟨ha16,hb64⟩:=hfs
                  have ha : a < 256:=by have : a < 16:=ha16;omega
                  have hb : b < 256:=by have : b < 64:=hb64;omega
                  obtain ⟨xs,hxs⟩ : ∃ xs,pr2 ++ (n :: K.two (x.sv.stack.take k)) = xs:=⟨_,rfl⟩
                  rw [hxs] at HLl HE HOk
                  have HNk : Kept (∀ z,u0.ownBlock = some z → z < wr.heap.size):=kp fun z hz => (HOk.out.block z hz).2
                  rw [hA]
                  clear hf hc hxs ha16 hb64
                  go_wp2_with (first
                    | ((with_reducible show Sl 65);go_must (refine qK rfl 175 (.tmp 64) rfl (ad.add (k * 2)) rfl [.int .i64 (a : Int),.int .i64 (b : Int)] _ HCf.out Try.underlying175 rfl J3 ?_))
                    | ((with_reducible show Sl 14);go_must (refine j7 rfl 175 rfl _ Y8 ?_);intro g14 w6 hg14 hk6 hw6;have HK6:=kp hk6;have HL6:=kp hw6;have hs6:=hw6.size;clear hk6 hw6)
                    | ((with_reducible show Sn);(refine j5 rfl 175 (.tmp 14) (.tmp 65) rfl g14 [.int .i64 (a : Int),.int .i64 (b : Int)] rfl rfl _ _ HK6.out J3 rfl (by simp [Value.oneCell']) ?_);intro w7 hk7 hg7 hz7
                       have HL7:=kp (HL6.out.grown hg7 hs6 (fun k e => by cases e;exact hg14));have hs7:=HL7.out.size
                       have HO7:=kp (HOk.out.below HL7.out (Nat.le_refl _));have HG7:=kp (HGk.out.then HL7.out)
                       have hd0 : w7.cell? ⟨g14,0,none⟩ = some (.int .i64 (a : Int)):=hk7.cell 0
                       have hd1 : w7.cell? ⟨g14,1,none⟩ = some (.int .i64 (b : Int)):=hk7.cell 1
                       clear hk7 hg7 hz7)
                    | (at_builtin;go_must (refine lX rfl (.tmp 66) (.tmp 73) 26 rfl B 5 _ _ Try.underlying26 lG rfl _ _ (xs.map byteV) rfl (World.ownsRow.alloc HO7.out _) _ 2 2 _ _ rfl (Row.made byteV w7 [a,b] _ rfl _).vals (ones _ vK _) (by have:=HLl.out;simp [maxLen];omega) (by have:=HLl.out;simp;omega) (by simp;omega) ?_);intro v8 w8 hown hg;have HO8:=kp hown;have HG8:=kp (HG7.out.trans (hg.new (by exact (Below.refl _ _).alloc (Nat.le_refl _) _)));clear hown hg))
                  go_roundw
                  case rel => exact ⟨k + 1,by omega,by go_num,by rw [← HE.out];exact HO8.out,HG8.out⟩
                  case measure => simp [intOf];omega
                · have hkn : n = k:=by omega
                  subst hkn
                  have HOe : Kept (Own wr B 5 u0 ((bs ++ (q.ow.take L ++ K.keyTs p ((q.tvs.map tvT).take (j + 1)))).map byteV)):=kp (by
                    rw [HN2.out]
                    have h:=HOk.out
                    rw [List.take_of_length_le (by omega)] at h
                    exact h)
                  have HGe:=kp (HG4.out.trans HGk.out)
                  clear hlt4 HOk
                  go_wp2
                  go_roundw
                  case rel => exact ⟨j + 1,by omega,by go_num,HOe.out,HGe.out⟩
                  case measure => simp [intOf];omega
        · have hjn : j = q.len:=by omega
          have HOe : Kept (Own wr B 5 u0 ((bs ++ K.key p q.cf).map byteV)):=kp (by
            have h:=HOr.out
            rw [hjn,← HTl.out,← List.length_map (f:=tvT),List.take_length] at h
            rw [HKey.out];exact h)
          have HGe : Kept (Grew w wr v u0):=kp (HGr.out.new HW2.out)
          clear hlt HOr
          go_wp2
          go_ret
          exact ⟨u0,rfl,HOe.out,HGe.out⟩
def OwnT {α : Type} (sz : Nat) (f : α → Nat → Value) (w : World) (B : Nat) (e : TypeId) (A : Option Addr) (n cap : Nat) (l : List α) : Prop :=
  l.length = n ∧ n ≤ cap ∧ cap ≤ maxLen ∧ ((A = none ∧ cap = 0) ∨ ∃ g off cur,A = some ⟨g,off,none⟩ ∧ B ≤ g ∧ Blk w g e cur ∧ off + cap * sz ≤ cur.length ∧ ∀ k x,l[k]? = some x → ∀ j,j < sz → cur[off + k * sz + j]? = some (f x j))
section
variable {α : Type} {sz : Nat} {f : α → Nat → Value} {w w' : World} {B n cap : Nat} {e : TypeId} {A : Option Addr} {l : List α}
theorem OwnT.nil (sz : Nat) (f : α → Nat → Value) (w : World) (B : Nat) (e : TypeId) : OwnT sz f w B e none 0 0 []:=⟨rfl,Nat.le_refl _,by simp [maxLen],.inl ⟨rfl,rfl⟩⟩
theorem OwnT.block (h : OwnT sz f w B e A n cap l) : ∀ k,(Value.slice A n cap).ownBlock = some k → B ≤ k ∧ k < w.heap.size:=by
  intro k hk
  rcases h.2.2.2 with ⟨rfl,_⟩ | ⟨g,off,cur,rfl,hB,hb,_⟩
  · cases hk
  · have : g = k:=by simpa [Value.ownBlock] using hk
    subst this
    exact ⟨hB,hb.lt⟩
theorem OwnT.typed {b : Nat} {t : TypeId} {cs : List Value} (h : OwnT sz f w B e A n cap l) (hb : Blk w b t cs) (hne : e ≠ t) : (Value.slice A n cap).ownBlock ≠ some b:=by
  intro hk
  rcases h.2.2.2 with ⟨rfl,_⟩ | ⟨g,off,cur,rfl,_,hg,_⟩
  · cases hk
  · have : g = b:=by simpa [Value.ownBlock] using hk
    subst this
    unfold Blk at hb hg
    rw [hg] at hb
    injection hb with hb
    injection hb with _ h2
    exact hne h2
theorem OwnT.heldAt {S : Nat → Prop} (h : OwnT sz f w B e A n cap l) (hb : Held S w w') (hS : ∀ k,(Value.slice A n cap).ownBlock = some k → S k) : OwnT sz f w' B e A n cap l:=by
  refine ⟨h.1,h.2.1,h.2.2.1,?_⟩
  rcases h.2.2.2 with hn | ⟨g,off,cur,rfl,hB,hg,rest⟩
  · exact .inl hn
  · exact .inr ⟨g,off,cur,rfl,hB,hg.held hb (hS g rfl),rest⟩
theorem OwnT.far {row : Option Nat} (h : OwnT sz f w B e A n cap l) (hg : w.grownBy w' row) (hne : ∀ k,(Value.slice A n cap).ownBlock = some k → some k ≠ row) : OwnT sz f w' B e A n cap l :=
  h.heldAt (Held.of_grown (S:=fun k => k < w.heap.size ∧ some k ≠ row) hg fun _ hk => hk) fun k hk => ⟨(h.block k hk).2,hne k hk⟩
theorem OwnT.below {C : Nat} (h : OwnT sz f w B e A n cap l) (hb : Below C w w') (hC : w.heap.size ≤ C) : OwnT sz f w' B e A n cap l :=
  h.heldAt (Held.of_below (S:=fun k => k < w.heap.size) hb fun _ hk => Nat.lt_of_lt_of_le hk hC) fun k hk => (h.block k hk).2
theorem OwnT.recs (h : OwnT sz f w B e A n cap l) : Recs sz f w w.heap.size A n l:=by
  refine ⟨h.1,fun h0 => ?_⟩
  rcases h.2.2.2 with ⟨_,hc⟩ | ⟨g,off,cur,rfl,hB,hg,hs,hc⟩
  · have:=h.2.1;omega
  · refine ⟨_,rfl,hg.lt,fun k x hx j hj => ?_⟩
    have hadd : (⟨g,off,none⟩ : Addr).add (k * sz + j) = ⟨g,off + k * sz + j,none⟩:=by unfold Addr.add;split <;> simp_all <;> omega
    rw [hadd,hg.cell]
    exact hc k x hx j hj
theorem splice_at {cur news : List Value} {p i : Nat} (hp : p + news.length ≤ cur.length) : (cur.take p ++ news ++ cur.drop (p + news.length))[i]? = if i < p then cur[i]? else if i < p + news.length then news[i - p]? else cur[i]?:=by
  have h1 : (cur.take p).length = p:=by rw [List.length_take];omega
  by_cases e1 : i < p
  · rw [if_pos e1,List.append_assoc,List.getElem?_append_left (by omega),List.getElem?_take,if_pos e1]
  · rw [if_neg e1]
    by_cases e2 : i < p + news.length
    · rw [if_pos e2,List.getElem?_append_left (by rw [List.length_append,h1];omega),List.getElem?_append_right (by omega),h1]
    · rw [if_neg e2,List.getElem?_append_right (by rw [List.length_append,h1];omega),List.length_append,h1,List.getElem?_drop]
      congr 1;omega
theorem XS {P : Program} (t ty : TypeId) (ht : P.underlying t = some (.slice e)) {z : Value} {bytes : Nat} (hi : (P.info? e).map (fun i => (i.zero,i.size,i.bytes)) = some (some z,sz,bytes)) (hzs : z.cells.size = sz)
    (hone : ∀ x j,(f x j).oneCell' = true) (h : OwnT sz f w B e A n cap l) (u : α) (ad : Addr) (c : Nat) (had : ∀ j,j < sz → w.cell? (ad.add j) = some (f u j))
    (h63 : n + 1 ≤ maxLen) (hbytes : (n + 1) * bytes ≤ 140737488355328) (hB : B ≤ w.heap.size) :
    ∃ A' cap' w',(Builtin.append_ #[t,t] ty #[.slice A n cap,.slice (some ad) 1 c]).run P w = .ok (.slice A' (n + 1) cap') w' ∧ OwnT sz f w' B e A' (n + 1) cap' (l ++ [u]) ∧ w.grownBy w' (Value.slice A n cap).ownBlock ∧ ((Value.slice A' (n + 1) cap').ownBlock = (Value.slice A n cap).ownBlock ∨ (Value.slice A' (n + 1) cap').ownBlock = some w.heap.size):=by
  obtain ⟨i,hi0,hz,hsize,hby⟩:=info_parts hi
  have hlen:=h.1;have hnc:=h.2.1;have hcm:=h.2.2.1
  have hm63 : n + 1 ≤ 9223372036854775807:=by simp only [maxLen] at h63;omega
  obtain ⟨news,hnw⟩ : ∃ news,(List.range sz).map (f u) = news:=⟨_,rfl⟩
  have hnl : news.length = sz:=by rw [← hnw];simp
  have hnat : ∀ j,j < sz → news[j]? = some (f u j):=fun j hj => by rw [← hnw,List.getElem?_map,List.getElem?_range hj];rfl
  have hnews : ∀ j v,news[j]? = some v → w.cell? (ad.add j) = some v:=fun j v hv => by
    have hj : j < sz:=by have:=(List.getElem?_eq_some_iff.1 hv).1;omega
    rw [had j hj,← hnat j hj,hv]
  have hn1 : ∀ v ∈ news,v.oneCell' = true:=fun v hv => by
    rw [← hnw] at hv
    obtain ⟨j,_,rfl⟩:=List.mem_map.1 hv
    exact hone u j
  have lt_sz : ∀ k,k * sz + sz = (k + 1) * sz:=fun k => by rw [Nat.add_mul];omega
  have key : ∀ k x,(l ++ [u])[k]? = some x → (k < n ∧ l[k]? = some x) ∨ (k = n ∧ x = u):=fun k x hx => by
    rcases Nat.lt_or_ge k l.length with hl | hl
    · rw [List.getElem?_append_left hl] at hx;exact .inl ⟨by omega,hx⟩
    · have h4:=(List.getElem?_eq_some_iff.1 hx).1
      simp only [List.length_append,List.length_singleton] at h4
      have e1 : k = l.length:=by omega
      subst e1
      rw [List.getElem?_append_right (Nat.le_refl _),Nat.sub_self] at hx
      exact .inr ⟨hlen,by simpa using hx.symm⟩
  by_cases hroom : n + 1 ≤ cap
  · rcases h.2.2.2 with ⟨_,hc⟩ | ⟨g,off,cur,rfl,hBg,hg,hs,hc⟩
    · omega
    have hle : (n + 1) * sz ≤ cap * sz:=Nat.mul_le_mul_right _ hroom
    have hfit : off + n * sz + 0 + news.length ≤ cur.toArray.size:=by have:=lt_sz n;simp;omega
    have hf:=run_firstCells_some (P:=P) w i.size 1 ad 1 c news (by rw [hnl,hsize];omega) hnews
    have hst:=run_storeCells_at P g (off + n * sz) e news 0 cur.toArray w hg hfit hn1
    simp only [Nat.add_zero] at hst
    rw [hsize] at hf
    refine ⟨some ⟨g,off,none⟩,cap,w.setRow g (cur.toArray.toList.take (off + n * sz) ++ news ++ cur.toArray.toList.drop (off + n * sz + news.length)).toArray,?_,?_,?_,.inl rfl⟩
    · simp [Builtin.append_,run_underlying ht,sizeOf,typeInfo,hi0,Builtin.lenOf,hroom,hf,Addr.add_mid,hsize,hst]
    · have hlen2 : (l ++ [u]).length = n + 1:=by simp [hlen]
      refine ⟨hlen2,hroom,hcm,.inr ⟨g,off,cur.take (off + n * sz) ++ news ++ cur.drop (off + n * sz + news.length),rfl,hBg,?_,?_,?_⟩⟩
      · unfold Blk
        rw [setRow_heap w g cur.toArray _ e _ hg]
      · simp only [List.length_append,List.length_take,List.length_drop]
        have:=lt_sz n;omega
      · intro k x hx j hj
        rw [splice_at (by have:=lt_sz n;omega)]
        rcases key k x hx with ⟨hk,hx'⟩ | ⟨rfl,rfl⟩
        · have : (k + 1) * sz ≤ n * sz:=Nat.mul_le_mul_right _ hk
          have:=lt_sz k
          rw [if_pos (by omega)]
          exact hc k x hx' j hj
        · rw [if_neg (by omega),if_pos (by omega),show off + k * sz + j - (off + k * sz) = j by omega]
          exact hnat j hj
    · exact ⟨rfl,rfl,rfl,by simp,fun k _ hk => setRow_other w g k _ (fun e => hk (by simp [Value.ownBlock,e]))⟩
  · have hfull : cap = n:=by omega
    subst hfull
    have hge:=grownCap_ge w (cap + 1) cap e
    have hgm : grownCap w (cap + 1) cap e ≤ maxLen:=grownCap_le_maxLen w (cap + 1) cap e h63
    have finish : ∀ (olds : List Value) (wd : World),wd.heap = w.heap → wd.os = w.os → wd.tape = w.tape → wd.output = w.output → olds.length = cap * sz → (∀ k x,l[k]? = some x → ∀ j,j < sz → olds[k * sz + j]? = some (f x j)) → ∀ row,
        OwnT sz f (wd.alloc (.cells (olds.toArray ++ news.toArray ++ Builtin.zeroCells z.cells (grownCap w (cap + 1) cap e - (cap + 1))) e)) B e (some ⟨w.heap.size,0,none⟩) (cap + 1) (grownCap w (cap + 1) cap e) (l ++ [u]) ∧
        w.grownBy (wd.alloc (.cells (olds.toArray ++ news.toArray ++ Builtin.zeroCells z.cells (grownCap w (cap + 1) cap e - (cap + 1))) e)) row:=by
      intro olds wd hh ho htp hout hol hoc row
      have hlen2 : (l ++ [u]).length = cap + 1:=by simp [hlen]
      have hzl:=size_zeroCells z.cells (grownCap w (cap + 1) cap e - (cap + 1))
      refine ⟨⟨hlen2,hge,hgm,.inr ⟨w.heap.size,0,olds ++ news ++ (Builtin.zeroCells z.cells (grownCap w (cap + 1) cap e - (cap + 1))).toList,rfl,hB,?_,?_,?_⟩⟩,⟨ho,htp,hout,by simp [hh],fun k hk _ => ?_⟩⟩
      · have h1:=Blk.newA wd e (olds.toArray ++ news.toArray ++ Builtin.zeroCells z.cells (grownCap w (cap + 1) cap e - (cap + 1))) (olds ++ news ++ (Builtin.zeroCells z.cells (grownCap w (cap + 1) cap e - (cap + 1))).toList) (by simp)
        rw [show wd.heap.size = w.heap.size by rw [hh]] at h1
        exact h1
      · rw [List.length_append,List.length_append,hol,hnl,Array.length_toList,hzl,hzs,Nat.sub_mul,Nat.zero_add]
        have : (cap + 1) * sz ≤ grownCap w (cap + 1) cap e * sz:=Nat.mul_le_mul_right _ hge
        have:=lt_sz cap
        omega
      · intro k x hx j hj
        rw [Nat.zero_add]
        rcases key k x hx with ⟨hk,hx'⟩ | ⟨rfl,rfl⟩
        · have : (k + 1) * sz ≤ cap * sz:=Nat.mul_le_mul_right _ hk
          have:=lt_sz k
          rw [List.append_assoc,List.getElem?_append_left (by omega)]
          exact hoc k x hx' j hj
        · rw [List.append_assoc,List.getElem?_append_right (by omega),hol,show k * sz + j - k * sz = j by omega,List.getElem?_append_left (by omega)]
          exact hnat j hj
      · rw [Below.heap_alloc wd _ k (by rw [hh];exact hk),hh]
    rcases h.2.2.2 with ⟨rfl,hc⟩ | ⟨g,off,cur,rfl,hBg,hg,hs,hc⟩
    · subst hc
      have hl0 : l = []:=List.eq_nil_of_length_eq_zero hlen
      subst hl0
      have hr:=run_append_nil (P:=P) w t ty e i z ht hi0 hz ad 1 c news (by rw [hnl,hsize];omega) hnews (by omega) (by omega) (by have hb:=hbytes;simp only [Nat.zero_add] at hb;rw [hby];omega)
      obtain ⟨h1,h2⟩:=finish [] w.drew rfl rfl rfl rfl (by simp) (fun k x hx => by simp at hx) (Value.slice none 0 0).ownBlock
      simp only [Nat.zero_add,List.nil_append] at hr h1 h2 ⊢
      exact ⟨_,_,_,hr,by simpa using h1,by simpa using h2,.inr rfl⟩
    · obtain ⟨olds,hold⟩ : ∃ olds,(cur.drop off).take (cap * sz) = olds:=⟨_,rfl⟩
      have hol : olds.length = cap * sz:=by rw [← hold,List.length_take,List.length_drop];omega
      have hoat : ∀ j,j < cap * sz → olds[j]? = cur[off + j]?:=fun j hj => by rw [← hold,List.getElem?_take,if_pos hj,List.getElem?_drop]
      have hr:=run_append_grow (P:=P) w t ty e i z ht hi0 hz ⟨g,off,none⟩ cap cap olds (by rw [hol,hsize]) (fun j v hv => by
        have hj : j < cap * sz:=by have:=(List.getElem?_eq_some_iff.1 hv).1;omega
        rw [Addr.add_mid,hg.cell,← hoat j hj,hv]) ad 1 c news (by rw [hnl,hsize];omega) hnews (by omega) (by omega) (growslice_fits (by omega) (by rw [hby];exact hbytes))
      obtain ⟨h1,h2⟩:=finish olds w.drew rfl rfl rfl rfl hol (fun k x hx j hj => by
        have hk : k < cap:=by have:=(List.getElem?_eq_some_iff.1 hx).1;omega
        have : (k + 1) * sz ≤ cap * sz:=Nat.mul_le_mul_right _ hk
        have:=lt_sz k
        rw [hoat _ (by omega),← Nat.add_assoc]
        exact hc k x hx j hj) (Value.slice (some ⟨g,off,none⟩) cap cap).ownBlock
      exact ⟨_,_,_,hr,h1,h2,.inr rfl⟩
theorem xS {P : Program} {ops : Array Oper} {rest : List Oper} {o : Oper} {a : Act} {Q : Exit → Act → World → Prop} (hgd : o.guard = none) (s x : Operand) (t : TypeId)
    (ho : o.op = .call { callee:=.builtin .append,args:=#[s,x],argTypes:=#[t,t] }) (ht : P.underlying t = some (.slice e)) {z : Value} {bytes : Nat} (hi : (P.info? e).map (fun i => (i.zero,i.size,i.bytes)) = some (some z,sz,bytes)) (hzs : z.cells.size = sz)
    (hone : ∀ x j,(f x j).oneCell' = true) (hs : a.eval s = .slice A n cap) (hown : OwnT sz f w B e A n cap l) (u : α) (ad : Addr) (c : Nat) (hx : a.eval x = .slice (some ad) 1 c) (had : ∀ j,j < sz → w.cell? (ad.add j) = some (f u j))
    (h63 : n + 1 ≤ maxLen) (hbytes : (n + 1) * bytes ≤ 140737488355328) (hB : B ≤ w.heap.size)
    (h : ∀ A' cap' w',OwnT sz f w' B e A' (n + 1) cap' (l ++ [u]) → Grew w w' (.slice A n cap) (.slice A' (n + 1) cap') → wpList P ops Q rest (a.put o.dst (.slice A' (n + 1) cap')) w') : wpList P ops Q (o :: rest) a w:=by
  refine wpList_plain hgd fun K hK => ?_
  obtain ⟨A',cap',w',hr,h2,h3,h4⟩:=XS (P:=P) t o.type ht hi hzs hone hown u ad c had h63 hbytes hB
  unfold Oper.wp execOp
  simp only [ho,resolve,invoke,builtin,Sem.run_bind,Sem.run_pure,Result.andThen_ok,List.map_toArray,List.map_cons,List.map_nil,hs,hx,hr]
  exact hK _ _ (h A' cap' w' h2 ⟨h3,h4.elim .inl fun h4 => .inr fun g hg => by rw [h4] at hg;cases hg;exact Nat.le_refl _⟩)
end
theorem OwnT.ty {α : Type} {sz : Nat} {f : α → Nat → Value} {w : World} {B n cap : Nat} {e : TypeId} {A : Option Addr} {l : List α} (h : OwnT sz f w B e A n cap l) : ∀ k,(Value.slice A n cap).ownBlock = some k → Ty w k = some e:=by
  intro k hk
  rcases h.2.2.2 with ⟨rfl,_⟩ | ⟨g,off,cur,rfl,_,hg,_⟩
  · cases hk
  · have : g = k:=by simpa [Value.ownBlock] using hk
    subst this
    exact hg.ty
def orV (e : K.En) : Nat → Value
  | 0 => .int .i64 (e.src : Int)
  | 1 => .int .i64 (e.who : Int)
  | _ => .bool e.way
theorem orV_one (e : K.En) (j : Nat) : (orV e j).oneCell' = true:=by
  rcases j with _ | _ | j <;> rfl
def cfV (q : Pc) (j : Nat) : Value:=(pcC q).getD j (.int .i64 0)
theorem cfV_one (q : Pc) (j : Nat) : (cfV q j).oneCell' = true:=by
  unfold cfV
  rw [List.getD_eq_getElem?_getD]
  cases h : (pcC q)[j]? with
  | none => rfl
  | some v => exact jX q v (List.mem_of_getElem? h)
theorem cfV_at {q : Pc} (h : q.ow.length = 16) {j : Nat} (hj : j < 17) : (pcC q)[j]? = some (cfV q j):=by
  unfold cfV
  rw [List.getD_eq_getElem?_getD,List.getElem?_eq_getElem (by rw [jW h];exact hj)];rfl
def keyLit (bs : List Nat) : Lit:=.string (bs.map UInt8.ofNat)
theorem keyLit_inj : ∀ {a b : List Nat},(∀ x ∈ a,x < 256) → (∀ x ∈ b,x < 256) → keyLit a = keyLit b → a = b:=by
  intro a b ha hb h
  have h1 : a.map UInt8.ofNat = b.map UInt8.ofNat:=by
    unfold keyLit at h
    injection h
  have h2:=congrArg (List.map UInt8.toNat) h1
  rw [List.map_map,List.map_map] at h2
  have key : ∀ l : List Nat,(∀ x ∈ l,x < 256) → l.map (UInt8.toNat ∘ UInt8.ofNat) = l:=fun l hl => by
    conv => rhs;rw [← List.map_id l]
    refine List.map_congr_left fun x hx => ?_
    have:=hl x hx
    simp [Nat.mod_eq_of_lt this]
  rw [key a ha,key b hb] at h2
  exact h2
def MapIs (D : DataW Unit) (m : List (List Nat)) : Prop:=Maps.IsMap D ∧ ∀ ks : List Nat,(∀ b ∈ ks,b < 256) → D.atKey (keyLit ks) (.lit (.bool false)) = .lit (.bool (decide (ks ∈ m)))
theorem MapIs.nil : MapIs (.map []) []:=⟨Maps.isMap_empty,fun ks _ => by simp [DataW.atKey]⟩
theorem MapIs.put {D : DataW Unit} {m : List (List Nat)} (h : MapIs D m) {k : List Nat} (hk : ∀ b ∈ k,b < 256) : MapIs (D.put (keyLit k) (.lit (.bool true))) (m ++ [k]):=by
  refine ⟨h.1.put _ _,fun ks hks => ?_⟩
  by_cases e : ks = k
  · subst e
    rw [Maps.atKey_put_same h.1 (by unfold keyLit;trivial),decide_eq_true (by simp)]
  · rw [Maps.atKey_put_other (fun x => e (keyLit_inj hks hk x)),h.2 ks hks]
    congr 2
    rw [Bool.eq_iff_iff,decide_eq_true_eq,decide_eq_true_eq]
    simp [e]
structure Sr where
  LA : Option Addr
  ln : Nat
  lc : Nat
  QA : Option Addr
  qn : Nat
  qc : Nat
  gM : Nat
  KA : Option Addr
  kn : Nat
  kc : Nat
  left : Bool
def srC (p : Pg) (most : Int) (r : Sr) : List Value:=[.int .i64 p.g,.int .i64 p.l,.int .i64 p.s,.slice p.A p.len p.cap,.int .i64 most,.slice r.LA r.ln r.lc,.slice r.QA r.qn r.qc,.map (some r.gM),.slice r.KA r.kn r.kc,.bool r.left]
def SkT (r : Sr) (gS k : Nat) : Prop:=k = gS ∨ k = r.gM ∨ (Value.slice r.LA r.ln r.lc).ownBlock = some k ∨ (Value.slice r.QA r.qn r.qc).ownBlock = some k ∨ (Value.slice r.KA r.kn r.kc).ownBlock = some k
structure SkP (w : World) (B gS : Nat) (p : Pg) (most : Int) (r : Sr) (l : List K.En) (m : List (List Nat)) (qs : List Pc) : Prop where
  blk : Blk w gS 114 (srC p most r)
  low : B ≤ gS
  list : OwnT 3 orV w B 117 r.LA r.ln r.lc l
  opn : OwnT 17 cfV w B 91 r.QA r.qn r.qc qs
  key : ∃ ks : List Nat,Own w B 5 (.slice r.KA r.kn r.kc) (ks.map byteV) ∧ ks.length ≤ 500
  map : B ≤ r.gM ∧ ∃ D,w.ownsMap Try.prog 9 (plainElem Try.prog 4) r.gM m.length D ∧ MapIs D m
  confs : ∀ q ∈ qs,Mine w B q ∧ q.ow.length = 16
structure SkM (w : World) (B gS : Nat) (p : Pg) (most : Int) (r : Sr) (s : K.Sk) (i : Nat) (qs : List Pc) : Prop where
  pt : SkP w B gS p most r s.all (s.all.map fun e => K.key p e.cf) qs
  left : r.left = s.left
  cfs : qs.map Pc.cf = (s.all.drop i).map (·.cf)
  le : i ≤ s.all.length
section
variable {w w' : World} {B gS : Nat} {p : Pg} {most : Int} {r : Sr} {s : K.Sk} {i : Nat} {qs : List Pc} {l : List K.En} {m : List (List Nat)}
theorem uC {w : World} {k : TypeId} {R : Value → Option (DataW Unit × List MemPlace)} {b n : Nat} {D : DataW Unit} {P : Program} (h : w.ownsMap P k R b n D) : Ty w b = none:=by
  obtain ⟨es,clock,hb,_⟩:=h
  unfold Ty;rw [hb]
theorem SkP.lt (h : SkP w B gS p most r l m qs) {k : Nat} (hk : SkT r gS k) : B ≤ k ∧ k < w.heap.size:=by
  rcases hk with rfl | rfl | hk | hk | hk
  · exact ⟨h.low,h.blk.lt⟩
  · obtain ⟨hB,D,hD,_⟩:=h.map
    exact ⟨hB,hD.lt⟩
  · exact h.list.block k hk
  · exact h.opn.block k hk
  · obtain ⟨ks,hk2,_⟩:=h.key
    exact hk2.block k hk
theorem SkP.ty (h : SkP w B gS p most r l m qs) {k : Nat} (hk : SkT r gS k) : ¬ (Ty w k = some 155 ∨ Ty w k = some 175):=by
  rcases hk with rfl | rfl | hk | hk | hk
  · rw [h.blk.ty];decide
  · obtain ⟨_,D,hD,_⟩:=h.map
    rw [uC hD];simp
  · rw [h.list.ty k hk];decide
  · rw [h.opn.ty k hk];decide
  · obtain ⟨ks,hk2,_⟩:=h.key
    rw [hk2.ty k hk];decide
theorem SkP.held {S : Nat → Prop} (h : SkP w B gS p most r l m qs) (hb : Held S w w') (hS : ∀ k,SkT r gS k → S k) (hT : ∀ k,k < w.heap.size → Ty w k = some 155 ∨ Ty w k = some 175 → S k) : SkP w' B gS p most r l m qs:=by
  obtain ⟨hB,D,hD,hMI⟩:=h.map
  obtain ⟨ks,hks,hkl⟩:=h.key
  refine ⟨h.blk.held hb (hS gS (.inl rfl)),h.low,h.list.heldAt hb fun k hk => hS k (.inr (.inr (.inl hk))),h.opn.heldAt hb fun k hk => hS k (.inr (.inr (.inr (.inl hk)))),⟨ks,hks.heldAt hb fun k hk => hS k (.inr (.inr (.inr (.inr hk)))),hkl⟩,⟨hB,D,?_,hMI⟩,fun q hq => ⟨(h.confs q hq).1.held hb hT,(h.confs q hq).2⟩⟩
  obtain ⟨es,clock,hb2,rest⟩:=hD
  exact ⟨es,clock,(hb.block _ (hS r.gM (.inr (.inl rfl)))).trans hb2,rest⟩
theorem SkM.held {S : Nat → Prop} (h : SkM w B gS p most r s i qs) (hb : Held S w w') (hS : ∀ k,SkT r gS k → S k) (hT : ∀ k,k < w.heap.size → Ty w k = some 155 ∨ Ty w k = some 175 → S k) : SkM w' B gS p most r s i qs:=⟨h.pt.held hb hS hT,h.left,h.cfs,h.le⟩
theorem SkP.below {C : Nat} (h : SkP w B gS p most r l m qs) (hb : Below C w w') (hC : w.heap.size ≤ C) : SkP w' B gS p most r l m qs :=
  h.held (Held.of_below (S:=fun k => k < w.heap.size) hb fun _ hk => Nat.lt_of_lt_of_le hk hC) (fun _ hk => (h.lt hk).2) fun _ hk _ => hk
theorem SkM.below {C : Nat} (h : SkM w B gS p most r s i qs) (hb : Below C w w') (hC : w.heap.size ≤ C) : SkM w' B gS p most r s i qs:=⟨h.pt.below hb hC,h.left,h.cfs,h.le⟩
theorem SkP.grown {g : Nat} (h : SkP w B gS p most r l m qs) (hg : w.grownBy w' (some g)) (hn : ¬ SkT r gS g) (hT : ¬ (Ty w g = some 155 ∨ Ty w g = some 175)) : SkP w' B gS p most r l m qs :=
  h.held (Held.of_grown (S:=fun k => k < w.heap.size ∧ k ≠ g) hg fun _ hk => ⟨hk.1,fun e => hk.2 (Option.some.inj e)⟩) (fun _ hk => ⟨(h.lt hk).2,fun e => hn (e ▸ hk)⟩) fun _ hk ht => ⟨hk,fun e => hT (e ▸ ht)⟩
theorem LJ {g : Nat} {cs : List Value} (h : Blk w g 91 cs) : ¬ (Ty w g = some 155 ∨ Ty w g = some 175):=by rw [h.ty];decide
theorem SkM.grown {g : Nat} (h : SkM w B gS p most r s i qs) (hg : w.grownBy w' (some g)) (hn : ¬ SkT r gS g) (hT : ¬ (Ty w g = some 155 ∨ Ty w g = some 175)) : SkM w' B gS p most r s i qs :=
  h.held (Held.of_grown (S:=fun k => k < w.heap.size ∧ k ≠ g) hg fun _ hk => ⟨hk.1,fun e => hk.2 (Option.some.inj e)⟩) (fun _ hk => ⟨(h.pt.lt hk).2,fun e => hn (e ▸ hk)⟩) fun _ hk ht => ⟨hk,fun e => hT (e ▸ ht)⟩
theorem SkP.mine (h : SkP w B gS p most r l m qs) {S : Nat → Prop} (hb : Held S w w') (hS : ∀ k,k < w.heap.size → ¬ SkT r gS k → S k) {q : Pc} {B' : Nat} (hq : Mine w B' q) : Mine w' B' q :=
  hq.held hb fun k hk ht => hS k hk fun e => h.ty e ht
theorem ty_ne {a b : Nat} {x y : Option TypeId} (ha : Ty w a = x) (hb : Ty w b = y) (h : x ≠ y) : a ≠ b:=fun e => h (by rw [← ha,← hb,e])
theorem qF (w : World) (g o : Nat) (v : Value) : w.grownBy (w.setCell ⟨g,o,none⟩ v) (some g) :=
  ⟨rfl,rfl,rfl,by simp,fun k _ hne => heap_setCell_other w ⟨g,o,none⟩ k v (fun e => hne (by rw [e]))⟩
structure SkR (w w' : World) (B gS : Nat) (x : Option TypeId) (r : Sr) (l : List K.En) (m : List (List Nat)) (qs : List Pc) : Prop where
  list : x ≠ some 117 → OwnT 3 orV w' B 117 r.LA r.ln r.lc l
  opn : x ≠ some 91 → OwnT 17 cfV w' B 91 r.QA r.qn r.qc qs
  key : x ≠ some 5 → ∃ ks : List Nat,Own w' B 5 (.slice r.KA r.kn r.kc) (ks.map byteV) ∧ ks.length ≤ 500
  map : x ≠ none → B ≤ r.gM ∧ ∃ D,w'.ownsMap Try.prog 9 (plainElem Try.prog 4) r.gM m.length D ∧ MapIs D m
  confs : x ≠ some 155 → x ≠ some 175 → ∀ (q : Pc) (B' : Nat),Mine w B' q → Mine w' B' q
theorem SkP.rest (h : SkP w B gS p most r l m qs) (x : Option TypeId) (hH : Held (fun k => k < w.heap.size ∧ Ty w k ≠ x ∧ k ≠ gS) w w') : SkR w w' B gS x r l m qs:=by
  have hsT : Ty w gS = some 114:=h.blk.ty
  have hS : ∀ k y,k < w.heap.size → Ty w k = y → y ≠ some 114 → x ≠ y → k < w.heap.size ∧ Ty w k ≠ x ∧ k ≠ gS:=fun k y hk ht h1 h2 => ⟨hk,fun e => h2 (by rw [← e,ht]),ty_ne ht hsT h1⟩
  obtain ⟨hB,D,hD,hMI⟩:=h.map
  obtain ⟨ks,hks,hkl⟩:=h.key
  refine ⟨fun hx => h.list.heldAt hH fun k hk => hS k _ (h.list.block k hk).2 (h.list.ty k hk) (by decide) hx,fun hx => h.opn.heldAt hH fun k hk => hS k _ (h.opn.block k hk).2 (h.opn.ty k hk) (by decide) hx,
    fun hx => ⟨ks,hks.heldAt hH fun k hk => hS k _ (hks.block k hk).2 (hks.ty k hk) (by decide) hx,hkl⟩,fun hx => ⟨hB,D,?_,hMI⟩,fun h1 h2 q B' hq => hq.held hH fun k hk ht => ?_⟩
  · have hD2:=hD
    obtain ⟨es,clock,hb2,rest⟩:=hD2
    exact ⟨es,clock,(hH.block _ (hS r.gM _ hD.lt (uC hD) (by simp) hx)).trans hb2,rest⟩
  · rcases ht with ht | ht
    · exact hS k _ hk ht (by decide) h1
    · exact hS k _ hk ht (by decide) h2
def SkS (w w' : World) (gS : Nat) (r r' : Sr) : Prop:=Held (fun k => k < w.heap.size ∧ ¬ SkT r gS k) w w' ∧ ∀ k,SkT r' gS k → SkT r gS k ∨ w.heap.size ≤ k
theorem SkS.trans {w1 : World} {r1 r2 : Sr} (h : SkS w w1 gS r r1) (k : SkS w1 w' gS r1 r2) : SkS w w' gS r r2:=by
  have hz:=h.1.size
  refine ⟨h.1.trans (k.1.less fun b hb => ⟨by omega,fun e => ?_⟩),fun b hb => ?_⟩
  · rcases h.2 b e with h1 | h1
    · exact hb.2 h1
    · omega
  · rcases k.2 b hb with h1 | h1
    · exact h.2 b h1
    · exact .inr (by omega)
theorem SkS.below {w1 : World} {C : Nat} (hb : Below C w w1) (hC : w.heap.size ≤ C) : SkS w w1 gS r r:=⟨Held.of_below hb fun _ hk => Nat.lt_of_lt_of_le hk.1 hC,fun _ hk => .inl hk⟩
theorem SkS.grown {g : Nat} (hg : w.grownBy w' (some g)) (hf : SkT r gS g ∨ w.heap.size ≤ g) : SkS w w' gS r r:=by
  refine ⟨Held.of_grown hg fun k hk => ⟨hk.1,fun e => ?_⟩,fun _ hk => .inl hk⟩
  have e2 : k = g:=Option.some.inj e
  subst e2
  rcases hf with h | h
  · exact hk.2 h
  · have:=hk.1;omega
theorem SkS.set {r' : Sr} (o : Nat) (v : Value) (hr : ∀ k,SkT r' gS k → SkT r gS k ∨ w.heap.size ≤ k) : SkS w (w.setCell ⟨gS,o,none⟩ v) gS r r' :=
  ⟨Held.of_grown (qF w gS o v) fun _ hk => ⟨hk.1,fun e => hk.2 (.inl (Option.some.inj e))⟩,hr⟩
theorem SkP.grew {w3 : World} {x : TypeId} {v v' : Value} (h : SkP w B gS p most r l m qs) (hx : ∀ k,v.ownBlock = some k → Ty w k = some x) (hxs : x ≠ 114) (hg : Grew w w3 v v') (o : Nat) (u : Value) :
    Blk (w3.setCell ⟨gS,o,none⟩ u) gS 114 ((srC p most r).set o u) ∧ Held (fun k => k < w.heap.size ∧ Ty w k ≠ some x ∧ k ≠ gS) w (w3.setCell ⟨gS,o,none⟩ u) ∧ Held (fun k => k < w.heap.size ∧ k ≠ gS ∧ v.ownBlock ≠ some k) w (w3.setCell ⟨gS,o,none⟩ u):=by
  have hsT : Ty w gS = some 114:=h.blk.ty
  have hne : v.ownBlock ≠ some gS:=fun e => by
    have:=hx gS e
    rw [hsT] at this
    exact hxs (Option.some.inj this).symm
  have h3s:=hg.size
  have hH : Held (fun k => k < w.heap.size ∧ k ≠ gS ∧ v.ownBlock ≠ some k) w (w3.setCell ⟨gS,o,none⟩ u) :=
    (hg.held.less fun k hk => ⟨hk.1,hk.2.2⟩).trans (Held.of_grown (qF w3 gS o u) fun k hk => ⟨by omega,fun e => hk.2.1 (Option.some.inj e)⟩)
  exact ⟨(h.blk.grew hg hne).set o u,hH.less fun k hk => ⟨hk.1,hk.2.2,fun e => hk.2.1 (hx k e)⟩,hH⟩
theorem SkP.keyed {w3 : World} (h : SkP w B gS p most r l m qs) {A3 : Option Addr} {kl c3 : Nat} {ks : List Nat} (hg : Grew w w3 (.slice r.KA 0 r.kc) (.slice A3 kl c3)) (ho : Own w3 B 5 (.slice A3 kl c3) (ks.map byteV)) (hk : ks.length ≤ 500) :
    SkP (w3.setCell ⟨gS,8,none⟩ (.slice A3 kl c3)) B gS p most { r with KA:=A3,kn:=kl,kc:=c3 } l m qs ∧ SkS w (w3.setCell ⟨gS,8,none⟩ (.slice A3 kl c3)) gS r { r with KA:=A3,kn:=kl,kc:=c3 } ∧ Own (w3.setCell ⟨gS,8,none⟩ (.slice A3 kl c3)) B 5 (.slice A3 kl c3) (ks.map byteV):=by
  obtain ⟨ks0,hks,_⟩:=h.key
  have hob : (Value.slice r.KA 0 r.kc).ownBlock = (Value.slice r.KA r.kn r.kc).ownBlock:=by cases r.KA <;> rfl
  obtain ⟨hb,hH1,hH2⟩:=h.grew (fun k hk => hks.ty k (by rw [← hob];exact hk)) (by decide) hg 8 (.slice A3 kl c3)
  have hR:=h.rest _ hH1
  have hown : Own (w3.setCell ⟨gS,8,none⟩ (.slice A3 kl c3)) B 5 (.slice A3 kl c3) (ks.map byteV):=by
    refine ho.far (qF w3 gS 8 _) ?_
    cases hv : (Value.slice A3 kl c3).ownBlock with
    | none => exact .inl rfl
    | some b =>
      refine .inr fun e => ?_
      have h1:=ho.ty b hv
      have h2 : b = gS:=Option.some.inj e
      rcases hg.2 with h3 | h3
      · have h4:=hks.ty gS (by rw [← hob,← h3,← h2];exact hv)
        rw [h.blk.ty] at h4
        exact absurd h4 (by decide)
      · have h4:=h3 b hv
        have h5:=h.blk.lt
        omega
  refine ⟨⟨hb,h.low,hR.list (by decide),hR.opn (by decide),⟨ks,hown,hk⟩,hR.map (by decide),fun q hq => ⟨hR.confs (by decide) (by decide) q _ (h.confs q hq).1,(h.confs q hq).2⟩⟩,⟨hH2.less fun k hk => ⟨hk.1,fun e => hk.2 (.inl e),fun e => hk.2 (.inr (.inr (.inr (.inr (by rw [← hob];exact e)))))⟩,fun k hk => ?_⟩,hown⟩
  rcases hk with h1 | h1 | h1 | h1 | h1
  · exact .inl (.inl h1)
  · exact .inl (.inr (.inl h1))
  · exact .inl (.inr (.inr (.inl h1)))
  · exact .inl (.inr (.inr (.inr (.inl h1))))
  · rcases hg.2 with h2 | h2
    · exact .inl (.inr (.inr (.inr (.inr (by rw [← hob,← h2];exact h1)))))
    · exact .inr (h2 k h1)
theorem SkP.listed {w3 : World} (h : SkP w B gS p most r l m qs) {A3 : Option Addr} {n3 c3 : Nat} {l3 : List K.En} (hg : Grew w w3 (.slice r.LA r.ln r.lc) (.slice A3 n3 c3)) (ho : OwnT 3 orV w3 B 117 A3 n3 c3 l3) :
    SkP (w3.setCell ⟨gS,5,none⟩ (.slice A3 n3 c3)) B gS p most { r with LA:=A3,ln:=n3,lc:=c3 } l3 m qs ∧ SkS w (w3.setCell ⟨gS,5,none⟩ (.slice A3 n3 c3)) gS r { r with LA:=A3,ln:=n3,lc:=c3 }:=by
  obtain ⟨hb,hH1,hH2⟩:=h.grew h.list.ty (by decide) hg 5 (.slice A3 n3 c3)
  have hR:=h.rest _ hH1
  have hne : ∀ k,(Value.slice A3 n3 c3).ownBlock = some k → k ≠ gS:=fun k hk e => by
    rcases hg.2 with h3 | h3
    · have h4:=h.list.ty k (by rw [← h3];exact hk)
      rw [e,h.blk.ty] at h4
      exact absurd h4 (by decide)
    · have h4:=h3 k hk
      have h5:=h.blk.lt
      omega
  refine ⟨⟨hb,h.low,ho.far (qF w3 gS 5 _) fun k hk e => hne k hk (Option.some.inj e),hR.opn (by decide),hR.key (by decide),hR.map (by decide),fun q hq => ⟨hR.confs (by decide) (by decide) q _ (h.confs q hq).1,(h.confs q hq).2⟩⟩,⟨hH2.less fun k hk => ⟨hk.1,fun e => hk.2 (.inl e),fun e => hk.2 (.inr (.inr (.inl e)))⟩,fun k hk => ?_⟩⟩
  rcases hk with h1 | h1 | h1 | h1 | h1
  · exact .inl (.inl h1)
  · exact .inl (.inr (.inl h1))
  · rcases hg.2 with h2 | h2
    · exact .inl (.inr (.inr (.inl (by rw [← h2];exact h1))))
    · exact .inr (h2 k h1)
  · exact .inl (.inr (.inr (.inr (.inl h1))))
  · exact .inl (.inr (.inr (.inr (.inr h1))))
theorem SkP.opened {w3 : World} (h : SkP w B gS p most r l m qs) {A3 : Option Addr} {n3 c3 : Nat} {q3 : List Pc} (hg : Grew w w3 (.slice r.QA r.qn r.qc) (.slice A3 n3 c3)) (ho : OwnT 17 cfV w3 B 91 A3 n3 c3 q3) (hq3 : ∀ q ∈ q3,Mine w B q ∧ q.ow.length = 16) :
    SkP (w3.setCell ⟨gS,6,none⟩ (.slice A3 n3 c3)) B gS p most { r with QA:=A3,qn:=n3,qc:=c3 } l m q3 ∧ SkS w (w3.setCell ⟨gS,6,none⟩ (.slice A3 n3 c3)) gS r { r with QA:=A3,qn:=n3,qc:=c3 }:=by
  obtain ⟨hb,hH1,hH2⟩:=h.grew h.opn.ty (by decide) hg 6 (.slice A3 n3 c3)
  have hR:=h.rest _ hH1
  have hne : ∀ k,(Value.slice A3 n3 c3).ownBlock = some k → k ≠ gS:=fun k hk e => by
    rcases hg.2 with h3 | h3
    · have h4:=h.opn.ty k (by rw [← h3];exact hk)
      rw [e,h.blk.ty] at h4
      exact absurd h4 (by decide)
    · have h4:=h3 k hk
      have h5:=h.blk.lt
      omega
  refine ⟨⟨hb,h.low,hR.list (by decide),ho.far (qF w3 gS 6 _) fun k hk e => hne k hk (Option.some.inj e),hR.key (by decide),hR.map (by decide),fun q hq => ⟨hR.confs (by decide) (by decide) q _ (hq3 q hq).1,(hq3 q hq).2⟩⟩,⟨hH2.less fun k hk => ⟨hk.1,fun e => hk.2 (.inl e),fun e => hk.2 (.inr (.inr (.inr (.inl e))))⟩,fun k hk => ?_⟩⟩
  rcases hk with h1 | h1 | h1 | h1 | h1
  · exact .inl (.inl h1)
  · exact .inl (.inr (.inl h1))
  · exact .inl (.inr (.inr (.inl h1)))
  · rcases hg.2 with h2 | h2
    · exact .inl (.inr (.inr (.inr (.inl (by rw [← h2];exact h1)))))
    · exact .inr (h2 k h1)
  · exact .inl (.inr (.inr (.inr (.inr h1))))
theorem SkP.mapped {D3 : DataW Unit} {m3 : List (List Nat)} (h : SkP w B gS p most r l m qs) (hg : w.grownBy w' (some r.gM)) (hD : w'.ownsMap Try.prog 9 (plainElem Try.prog 4) r.gM m3.length D3) (hM : MapIs D3 m3) : SkP w' B gS p most r l m3 qs ∧ SkS w w' gS r r:=by
  obtain ⟨hB,D,hD0,_⟩:=h.map
  have hmT:=uC hD0
  have hR:=h.rest none (Held.of_grown hg fun k hk => ⟨hk.1,fun e => hk.2.1 (by rw [Option.some.inj e];exact hmT)⟩)
  exact ⟨⟨h.blk.grown hg (fun e => by have h1:=h.blk.ty;rw [Option.some.inj e,hmT] at h1;cases h1),h.low,hR.list (by simp),hR.opn (by simp),hR.key (by simp),⟨hB,D3,hD,hM⟩,fun q hq => ⟨hR.confs (by simp) (by simp) q _ (h.confs q hq).1,(h.confs q hq).2⟩⟩,
    Held.of_grown hg fun k hk => ⟨hk.1,fun e => hk.2 (.inr (.inl (Option.some.inj e)))⟩,fun _ hk => .inl hk⟩
theorem SkP.less (h : SkP w B gS p most r l m qs) : SkP (w.setCell ⟨gS,9,none⟩ (.bool true)) B gS p most { r with left:=true } l m qs ∧ SkS w (w.setCell ⟨gS,9,none⟩ (.bool true)) gS r { r with left:=true }:=by
  have hR:=h.rest (some 114) (Held.of_grown (qF w gS 9 (.bool true)) fun k hk => ⟨hk.1,fun e => hk.2.2 (Option.some.inj e)⟩)
  exact ⟨⟨h.blk.set 9 (.bool true),h.low,hR.list (by decide),hR.opn (by decide),hR.key (by decide),hR.map (by decide),fun q hq => ⟨hR.confs (by decide) (by decide) q _ (h.confs q hq).1,(h.confs q hq).2⟩⟩,SkS.set 9 _ fun _ hk => .inl hk⟩
end
theorem bool_zero12 : (Try.prog.info? 4).map (·.zero) = some (some (.bool false)):=by kernel_rfl
theorem zero_bool (W : World) : (zeroValue 4).run Try.prog W = .ok (.bool false) W:=by
  have h:=bool_zero12
  cases hq : Try.prog.info? 4 with
  | none => rw [hq] at h;cases h
  | some i =>
    have hz : i.zero = some (.bool false):=by simpa [hq] using h
    simp [zeroValue,typeInfo,hq,hz]
theorem plain_bool {P : Program} {e : TypeId} (he : P.underlying e = some .bool) {v : Value} {z : DataW Unit × List MemPlace} {b : Bool} (h : plainElem P e v = some z) (hb : z.1 = .lit (.bool b)) : v = .bool b:=by
  unfold plainElem at h
  rw [he] at h
  cases v <;> simp at h
  rw [← h] at hb
  simp at hb
  rw [hb]
theorem seen_look {w : World} {gM n : Nat} {D : DataW Unit} {m : List (List Nat)} (hD : w.ownsMap Try.prog 9 (plainElem Try.prog 4) gM n D) (hM : MapIs D m) {ks : List Nat} (hk : ∀ b ∈ ks,b < 256) (hl : ks.length ≤ 1000) (b : Bool) (hb : decide (ks ∈ m) = b) :
    ∀ W : World,W.heap = w.heap → (Instr.lookup 110 (.map (some gM)) (.string (strOf ks)) false).run Try.prog W = .ok (.bool b) W:=by
  intro W hW
  have hD2 : W.ownsMap Try.prog 9 (plainElem Try.prog 4) gM n D:=by
    obtain ⟨es,clock,h1,h2⟩:=hD
    exact ⟨es,clock,by rw [hW];exact h1,h2⟩
  have hkey : keyOf Try.prog 9 (.string (strOf ks)) = some (keyLit ks):=by
    rw [WideMaps.keyOf_string_mk Try.underlying9 (by rw [X2];unfold maxLen;omega)]
    simp [strOf,keyLit]
  obtain ⟨v,ps,hrun,hv⟩:=hD2.lookup (Maps.string_keyed Try.underlying9) Try.underlying110 (zero_bool W) (plainElem_bool Try.underlying4 false) hkey
  rw [hM.2 ks hk,hb] at hv
  rw [hrun,plain_bool Try.underlying4 hv rfl]
end Go.Proofs.Ytcbfghcdbmlneaa
