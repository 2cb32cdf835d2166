/- The program's interpreter, walked: Spawn. -/
import Derived.Test.YtoekiejipdabmaaDoorPk14
namespace Go.Proofs.YtoekiejipdabmaaDoor
open Go.RowKit
theorem zB : (Tryd.prog.info? 40).map (·.size) = some 1:=by kernel_rfl
theorem OwnR.only {α : Type} {sz : Nat} {f : α → Nat → Value} {w w' : World} {B : Nat} {e : TypeId} {v : Value} {l : List α} {G : Nat → Prop} (h : OwnR sz f w B e v l) (ho : Only G w w') (hg : ∀ b,v.ownBlock = some b → ¬ G b) : OwnR sz f w' B e v l:=by
  have hb:=h.block
  rcases h.2 with h1 | ⟨g,cap,cur,hv,hB1,hh,rest⟩
  · exact ⟨h.1,.inl h1⟩
  · have e1 : v.ownBlock = some g:=by rw [hv];rfl
    exact ⟨h.1,.inr ⟨g,cap,cur,hv,hB1,by rw [ho.block g (hb g e1).2 (hg g e1)];exact hh,rest⟩⟩
def Fact.begun (B a K : Nat) : Fact :=
  ⟨fun v W => ∃ g,v = .agg (Value.slice (some ⟨g,0,none⟩) 1 1 :: zeros 8).toArray ∧ OwnR 2 frV W B 52 (.slice (some ⟨g,0,none⟩) 1 1) [(a,0)] ∧ K ≤ g,fun _ _ _ hb ⟨g,h1,h2,h3⟩ => ⟨g,h1,h2.below hb (Nat.le_refl _),h3⟩⟩
def GFact.begun (G : Nat → Prop) (B a K : Nat) : GFact G :=
  ⟨fun v W => ∃ g,v = .agg (Value.slice (some ⟨g,0,none⟩) 1 1 :: zeros 8).toArray ∧ OwnR 2 frV W B 52 (.slice (some ⟨g,0,none⟩) 1 1) [(a,0)] ∧ ¬ G g ∧ K ≤ g,fun _ _ _ ho ⟨g,h1,h2,h3,h4⟩ => ⟨g,h1,h2.only ho (fun b e => by cases e;exact h3),h3,h4⟩⟩
def Fact.thread (B a K : Nat) : Fact :=
  ⟨fun v W => ∃ gn g,v = .slice (some ⟨gn,0,none⟩) 1 1 ∧ Blk W gn 50 (Value.slice (some ⟨g,0,none⟩) 1 1 :: zeros 8) ∧ OwnR 2 frV W B 52 (.slice (some ⟨g,0,none⟩) 1 1) [(a,0)] ∧ K ≤ g,fun _ _ _ hb ⟨gn,g,h1,h2,h3,h4⟩ => ⟨gn,g,h1,h2.below hb h2.lt,h3.below hb (Nat.le_refl _),h4⟩⟩
def GFact.thread (G : Nat → Prop) (B a K : Nat) : GFact G :=
  ⟨fun v W => ∃ gn g,v = .slice (some ⟨gn,0,none⟩) 1 1 ∧ Blk W gn 50 (Value.slice (some ⟨g,0,none⟩) 1 1 :: zeros 8) ∧ ¬ G gn ∧ OwnR 2 frV W B 52 (.slice (some ⟨g,0,none⟩) 1 1) [(a,0)] ∧ ¬ G g ∧ K ≤ g,fun _ _ _ ho ⟨gn,g,h1,h2,h3,h4,h5,h6⟩ => ⟨gn,g,h1,ho.blk h2 h3,h3,h4.only ho (fun b e => by cases e;exact h5),h5,h6⟩⟩
def Fact.threads (B a K n : Nat) (l : List Tv) : Fact :=
  ⟨fun v W => ∃ g gV c,v = .slice (some ⟨gV,0,none⟩) n c ∧ OwnR 9 tvV W B 50 (.slice (some ⟨gV,0,none⟩) n c) (l ++ [newT a g]) ∧ OwnR 2 frV W B 52 (.slice (some ⟨g,0,none⟩) 1 1) [(a,0)] ∧ K ≤ g ∧ K ≤ gV ∧ gV ≠ g,fun _ _ _ hb ⟨g,gV,c,h1,h2,h3,h4⟩ => ⟨g,gV,c,h1,h2.below hb (Nat.le_refl _),h3.below hb (Nat.le_refl _),h4⟩⟩
def Spawned (w3 W : World) (B a gT n cap : Nat) (l : List Tv) : Prop :=
  ∃ g,w3.grownBy W (some gT) ∧ OwnR 9 tvV W B 50 (.slice (some ⟨gT,0,none⟩) (n + 1) cap) (l ++ [newT a g]) ∧ OwnR 2 frV W B 52 (.slice (some ⟨g,0,none⟩) 1 1) [(a,0)] ∧ w3.heap.size ≤ g
def StCf (W : World) (B gN gU : Nat) (c : M.Cf) : Prop:=∃ q3,St W B gN gU q3 ∧ q3.cf = c
set_option maxRecDepth 100000 in
set_option maxHeartbeats 1600000 in
theorem XZ (B gN gU k : Nat) (q : Pc) (x : Nd) (way : Bool) (th : Tv) (w : World) (hst : St w B gN gU q) (hu : Blk w gU 94 (turnC gN k way x)) (hkl : k < q.len) (hth : q.tvs[k]? = some th) (hs0 : 0 < th.sv.len) (hlen16 : th.sv.len ≤ 1000) (h8 : q.len ≤ 8) (nx : Nat) (hnx : x.next = (nx : Int)) (a : Nat) (ha : x.arg = (a : Int)) (al : Nat) (hal : x.alt = (al : Int)) (hal8 : al < 8) (h8s : th.slots.length = 8) (hk5 : x.kind = 5) :
    Calls Tryd.prog 56 #[.pointer (some ⟨gU,0,none⟩)] w fun e w' => e = .returned (.tuple #[]) ∧ ∃ q',St w' B gN gU q' ∧ q'.cf = M.act q.cf k x way ∧ Below B w w':=by
  have hst_len : q.len = q.cf.ths.length:=by rw [q.ths_len];exact hst.row.len_is.1.symm
  go_enter Tryd.func56,Tryd.ntmps56
  go_wp2_with fail
  refine (xA B gN gU k q x way th w hst hu hkl hth hs0 hlen16 h8 nx hnx).mono ?_
  rintro e w1 ⟨rfl,hst1,hu1,hb1⟩
  have hw1s:=hb1.size
  have hth1 : (q.put k (tvGo th nx)).tvs[k]? = some (tvGo th nx):=by
    show (q.tvs.set k (tvGo th nx))[k]? = _
    rw [List.getElem?_set,if_pos rfl,if_pos (List.getElem?_eq_some_iff.1 hth).1]
  have hcf1 : M.th q.cf k = tvT th:=Pc.th_of hth
  have HCf:=kp (Pc.put_cf q k (tvGo th nx))
  have HCf0:=kp hcf1
  have hs01 : 0 < (tvGo th nx).sv.len:=hs0
  have hlen161 : (tvGo th nx).sv.len ≤ 1000:=hlen16
  have hkl1 : k < (q.put k (tvGo th nx)).len:=hkl
  have h81 : (q.put k (tvGo th nx)).len ≤ 8:=h8
  have how1 : (q.put k (tvGo th nx)).ow = q.ow:=rfl
  have HQlen : Kept ((q.put k (tvGo th nx)).len = q.len):=kp rfl
  have HTvs : Kept ((q.put k (tvGo th nx)).tvs = q.tvs.set k (tvGo th nx)):=kp rfl
  have HTh1 : Kept (tvT (tvGo th nx) = ⟨M.goOn th.sv.stack nx,th.slots⟩):=kp rfl
  obtain ⟨q1,hq1⟩ : ∃ q1,q.put k (tvGo th nx) = q1:=⟨_,rfl⟩
  obtain ⟨th1,ht1⟩ : ∃ th1,tvGo th nx = th1:=⟨_,rfl⟩
  rw [ht1] at hq1 hth1 hs01 hlen161 HCf HTh1 HTvs hst1 hkl1 h81 how1 HQlen
  rw [hq1] at hst1 hth1 hkl1 h81 how1 HCf HQlen HTvs
  clear hst hu hq1 ht1 hcf1 hs0 hlen16
  obtain ⟨gT,curT,thx,hA,hbT,hthx,hcT0,hcTj,hTN,hTU,hBT,hsl,hthc,hcTl⟩:=hst1.thread hkl1
  rw [hth1] at hthx
  cases hthx
  obtain ⟨gS,cur,hSA,hbS,hlen,hSN,hSU,hBS,hput⟩:=hst1.goes hth1 hs01
  have hbound:=hst1.ok
  have hqc:=hbound.lc;have hqm:=hbound.cm
  unfold maxLen at hqm
  have HE : Kept (pcC q1 = .slice (some ⟨gT,0,none⟩) q1.len q1.cap :: q1.ow.map natV):=kp (by unfold pcC;rw [hA])
  have hgN:=hst1.conf.lt;have hgU:=hu1.lt;have hgT:=hbT.lt;have hgS:=hbS.lt
  have HSt:=kp hst1;have HK:=kp hu1;have HT:=kp hbT;have HS:=kp hbS;have HPut:=kp hput
  have hxc:=hbound.svs th1 (List.mem_of_getElem? hth1)
  have hxc2:=hxc.lc;have hxm:=hxc.cm
  unfold maxLen at hxm
  rw [hSA] at hcT0
  have HC0:=kp hcT0
  have hlow:=hst1.low.1
  have hBw : B ≤ w1.heap.size:=by omega
  have HLow:=kp hst1.low
  obtain ⟨n,hn⟩ : ∃ n,th1.sv.len = n:=⟨_,rfl⟩
  obtain ⟨cp,hcp⟩ : ∃ cp,th1.sv.cap = cp:=⟨_,rfl⟩
  have HThl:=kp hn
  rw [hn] at HC0 hs01 hlen161 hxc2 hlen HPut
  rw [hcp] at HC0 hxc2 hxm
  have HA:=kp hA;have HTh:=kp hth1
  have h81s : th1.slots.length = 8:=by have h2 : th1.slots = th.slots:=congrArg M.Th.slots HTh1.out;rw [h2];exact h8s
  have H8s:=kp h81s
  have HLen : Kept ((q1.tvs.set k ⟨th1.sv,th1.slots.set al (q1.len + 1)⟩).length = q1.len):=kp (by rw [List.length_set];exact hst1.row.len_is.1)
  have HE2 : Kept (pcC (q1.put k ⟨th1.sv,th1.slots.set al (q1.len + 1)⟩) = .slice (some ⟨gT,0,none⟩) q1.len q1.cap :: q1.ow.map natV):=HE
  have HAdd : Kept (k * 9 + 1 + al = k * 9 + (al + 1)):=kp (by omega)
  have hSlen : k * 9 + 1 + al < curT.length:=by omega
  have HGoal : Kept (∀ gV g c,(⟨some ⟨gV,0,none⟩,q1.len + 1,c,(q1.put k ⟨th1.sv,th1.slots.set al (q1.len + 1)⟩).tvs ++ [newT a g],q1.ow⟩ : Pc).cf = M.act q.cf k x way):=kp (fun gV g c => by
    unfold M.act
    have h1 : th1.sv.stack = M.goOn th.sv.stack nx:=congrArg M.Th.stack HTh1.out
    have h2 : th1.slots = th.slots:=congrArg M.Th.slots HTh1.out
    have hlq : q1.len = q.cf.ths.length:=by rw [HQlen.out,hst_len]
    have e1 : (q1.put k ⟨th1.sv,th1.slots.set al (q1.len + 1)⟩).tvs.map tvT = q.cf.ths.set k ⟨M.goOn th.sv.stack nx,th.slots.set al (q.cf.ths.length + 1)⟩:=by
      have h:=congrArg M.Cf.ths (Pc.put_cf q1 k ⟨th1.sv,th1.slots.set al (q1.len + 1)⟩)
      rw [HCf.out] at h
      have h5 : ((q1.put k ⟨th1.sv,th1.slots.set al (q1.len + 1)⟩).cf.ths) = ((q.cf.ths.set k (tvT th1)).set k (tvT ⟨th1.sv,th1.slots.set al (q1.len + 1)⟩)):=h
      rw [List.set_set] at h5
      refine Eq.trans h5 ?_
      show q.cf.ths.set k ⟨th1.sv.stack,th1.slots.set al (q1.len + 1)⟩ = _
      rw [h1,h2,hlq]
    rw [if_neg (show ¬ x.kind = 9 by omega),if_neg (show ¬ x.kind = 3 by omega),if_neg (show ¬ x.kind = 4 by omega),if_pos hk5,HCf0.out,hnx,ha,hal,Int.toNat_natCast,Int.toNat_natCast,Int.toNat_natCast]
    show (⟨((q1.put k ⟨th1.sv,th1.slots.set al (q1.len + 1)⟩).tvs ++ [newT a g]).map tvT,q1.ow⟩ : M.Cf) = _
    rw [List.map_append,e1,how1]
    rfl)
  have hu0:=HK.out.cell 0
  simp only [turnC,List.getElem?_cons_zero] at hu0
  clear hst1 hu1 hth1 hput hbT hbS hcT0 hcTj hthc hcTl hsl hbound hxc hn hcp hSA hA
  go_wp2
  clear hu0
  apply jJ 16 (.is _ :: .is _ :: .is _ :: .is _ :: .is _ :: .is _ :: .is _ :: .is _ :: .is _ :: .is _ :: .is _ :: .is _ :: .is _ :: .is _ :: .is _ :: .is _ :: [])
    [[],[(0,9)],[],[(2,11)],[(3,12)],[(4,13)],[(5,14)],[],[(7,16)],[(8,17)],[(9,18)],[(10,19)],[(11,20)],[(1,10)],[(13,22)],[(14,23),(6,15)],[(15,24),(12,21)]]
    [(0,9),(1,10),(2,11),(3,12),(4,13),(5,14),(6,15),(7,16),(8,17),(9,18),(10,19),(11,20),(12,21),(13,22),(14,23),(15,24)] (by kernel_rfl) (by kernel_rfl) (by kernel_rfl) (by kernel_rfl) (by kernel_rfl)
  case hob =>
    refine ⟨?o0,?o1,?o2,?o3,?o4,?o5,?o6,?o7,?o8,?o9,?o10,?o11,?o12,?o13,?o14,?o15,trivial⟩
    case o0 => intro W hW;change wpList _ _ _ _ _ _;go_wp2;exact j3 rfl rfl rfl
    case o1 =>
      intro W hW;rintro _ rfl;change wpList _ _ _ _ _ _
      have hCu:=(HK.out.below hW hgU)
      have hCn:=((HSt.out.conf.below hW hgN).cell 0)
      rw [HE.out,List.getElem?_cons_zero] at hCn
      have HC:=kp (qP gU gN gT k q1.len q1.cap way x W hCu hCn hkl1)
      clear hCu hCn
      go_wp2_with fail
      refine (HC.out).mono ?_
      rintro e w2 ⟨rfl,m,rfl⟩
      go_wp2
      exact jE rfl rfl rfl (below_drewN (Below.refl _ _) m) rfl
    case o2 => intro W hW;change wpList _ _ _ _ _ _;go_wp2;exact j3 rfl rfl rfl
    case o3 => intro W hW;rintro _ rfl;change wpList _ _ _ _ _ _;go_wp2;exact j3 rfl rfl rfl
    case o4 => intro W hW;rintro _ rfl;change wpList _ _ _ _ _ _;go_wp2;exact j3 rfl rfl rfl
    case o5 => intro W hW;rintro _ rfl;change wpList _ _ _ _ _ _;go_wp2;exact j3 rfl rfl rfl
    case o6 =>
      intro W hW;rintro _ rfl;change wpList _ _ _ _ _ _
      have hc:=(HK.out.below hW hgU).cell 6
      simp only [turnC,List.getElem?_cons_zero,List.getElem?_cons_succ] at hc
      rw [hal] at hc
      go_wp2;exact j3 rfl rfl rfl
    case o7 => intro W hW;change wpList _ _ _ _ _ _;go_wp2;exact j3 rfl rfl rfl
    case o8 => intro W hW;rintro _ rfl;change wpList _ _ _ _ _ _;go_wp2;exact j3 rfl rfl rfl
    case o9 => intro W hW;rintro _ rfl;change wpList _ _ _ _ _ _;go_wp2;exact j3 rfl rfl rfl
    case o10 =>
      intro W hW;rintro _ rfl;change wpList _ _ _ _ _ _
      have hc:=(HSt.out.conf.below hW hgN).cell 0
      rw [HE.out,List.getElem?_cons_zero] at hc
      go_wp2;exact j3 rfl rfl rfl
    case o11 => intro W hW;rintro _ rfl;change wpList _ _ _ _ _ _;go_wp2;exact j3 rfl rfl rfl
    case o12 =>
      intro W hW;rintro _ rfl;change wpList _ _ _ _ _ _
      go_wp2_with fail
      refine (vZ q1.len (by omega) W).mono ?_
      rintro e w2 ⟨rfl,rfl⟩
      go_wp2
      exact j3 rfl rfl rfl
    case o13 => intro W hW;rintro _ rfl;change wpList _ _ _ _ _ _;go_wp2;exact j3 rfl rfl rfl
    case o14 => intro W hW;rintro _ rfl;change wpList _ _ _ _ _ _;go_wp2;exact j3 rfl rfl rfl
    case o15 => intro W hW;rintro _ rfl;rintro _ rfl;change wpList _ _ _ _ _ _;go_wp2;exact j3 rfl rfl rfl
  case hend =>
    intro W hW;rintro _ rfl;rintro _ rfl;rintro _ rfl;rintro _ rfl;rintro _ rfl;rintro _ rfl;rintro _ rfl;rintro _ rfl;rintro _ rfl;rintro _ rfl;rintro _ rfl;rintro _ rfl;rintro _ rfl;rintro _ rfl;rintro _ rfl;rintro _ rfl
    simp only [given,jI,List.set,List.drop]
    have HKw:=kp (HT.out.below hW hgT)
    have HStw:=kp (HSt.out.below hW (Nat.le_refl _))
    have HBw:=kp (hb1.trans (hW.mono hBw))
    have HKu:=kp (HK.out.below hW hgU)
    have hWs:=hW.size
    clear hW
    go_wp2_with (first
      | ((with_reducible show Sn);go_must (refine jF rfl 3 (.tmp 24) (.tmp 21) rfl gT (k * 9 + 1 + al) (.int .i64 ((q1.len + 1 : Nat) : Int)) rfl rfl rfl rfl _ _ HKw.out hSlen xX ?_);intro w3 hk3 hg3 hs3
         rw [HAdd.out] at hk3
         have HSt3:=kp (HStw.out.slot HA.out HKw.out HTh.out H8s.out hal8 hk3 hg3 hs3)
         have HK3:=kp (HKu.out.grown hg3 (fun e => hTU (by cases e;rfl)))
         have HB3:=kp (HBw.out.grown hg3 (by omega) (fun k e => by cases e;exact hBT));have hs31 : w1.heap.size ≤ w3.heap.size:=by omega
         clear hk3 hg3 hs3))
    have hBw3 : B ≤ w3.heap.size:=by omega
    have hgU3:=HK3.out.lt;have hgN3:=HSt3.out.conf.lt
    have HCn3 : Kept (w3.cell? ⟨gN,0,none⟩ = some (.slice (some ⟨gT,0,none⟩) q1.len q1.cap)):=kp (by have h:=HSt3.out.conf.cell 0;rw [HE2.out,List.getElem?_cons_zero] at h;exact h)
    simp only [QQ]
    by_cases hroom : q1.len + 1 ≤ q1.cap
    · have hx1:=hroom
      apply qL (fun k => k = gT ∨ k = gN) [12,15] [1,2,3,4,5,6,7,8,9,10,11] (phs ([fun W => Below w3.heap.size w3 W,fun W => Spawned w3 W B a gT q1.len q1.cap (q1.tvs.set k ⟨th1.sv,th1.slots.set al (q1.len + 1)⟩),fun W => StCf W B gN gU (M.act q.cf k x way)] : List (World → Prop))) (.is _ :: .is _ :: .is _ :: .is _ :: .is _ :: .is _ :: .is _ :: .is _ :: .is _ :: .is _ :: GFact.begun _ B a w3.heap.size :: GFact.thread _ B a w3.heap.size :: .is _ :: .is _ :: .is _ :: .any _ :: [])
        [[],[],[(1,26)],[(2,27)],[(3,28)],[],[(5,30)],[(6,31)],[(7,32)],[(8,33)],[(9,34)],[(10,35)],[(4,29),(11,36)],[(0,25)],[(13,38)],[(14,39),(12,37)]]
        [(0,25),(1,26),(2,27),(3,28),(4,29),(5,30),(6,31),(7,32),(8,33),(9,34),(10,35),(11,36),(12,37),(13,38),(14,39)] (by kernel_rfl) (by kernel_rfl) (by kernel_rfl) (by kernel_rfl) (by decide)
      case h0 => exact (⟨rfl,rfl,rfl,Nat.le_refl _,fun _ _ => rfl⟩ : Below w3.heap.size w3 w3.drew)
      case hob =>
        refine lJ rfl rfl ?o0 (j9 rfl rfl ?o1 (j9 rfl rfl ?o2 (j9 rfl rfl ?o3 (j9 rfl rfl ?o4 (j9 rfl rfl ?o5 (j9 rfl rfl ?o6 (j9 rfl rfl ?o7 (j9 rfl rfl ?o8 (j9 rfl rfl ?o9 (j9 rfl rfl ?o10 (j9 rfl rfl ?o11 (qI 0 rfl rfl ?o12 (lJ rfl rfl ?o13 (lJ rfl rfl ?o14 (qI 1 rfl rfl ?o15 (zN))))))))))))))))
        case o0 => intro p W hO hJ;change wpList _ _ _ _ _ _;go_wp2;exact jA rfl rfl rfl hJ
        case o1 => intro W hO hJ;change wpList _ _ _ _ _ _;go_wp2;exact jA rfl rfl rfl hJ
        case o2 => intro W hO hJ;rintro _ rfl;change wpList _ _ _ _ _ _;go_wp2;exact jA rfl rfl rfl hJ
        case o3 => intro W hO hJ;rintro _ rfl;change wpList _ _ _ _ _ _;go_wp2;exact jA rfl rfl rfl hJ
        case o4 =>
          intro W hO hJ;rintro _ rfl;change wpList _ _ _ _ _ _
          have hb : Below w3.heap.size w3 W:=hJ
          have hc:=(hb.cell (p:=⟨gN,0,none⟩) hgN3).trans HCn3.out
          clear hb
          go_wp2;exact jA rfl rfl rfl hJ
        case o5 => intro W hO hJ;change wpList _ _ _ _ _ _;go_wp2;exact jA rfl rfl rfl hJ
        case o6 => intro W hO hJ;rintro _ rfl;change wpList _ _ _ _ _ _;go_wp2;exact jA rfl rfl rfl hJ
        case o7 => intro W hO hJ;rintro _ rfl;change wpList _ _ _ _ _ _;go_wp2;exact jA rfl rfl rfl hJ
        case o8 => intro W hO hJ;rintro _ rfl;change wpList _ _ _ _ _ _;go_wp2;exact jA rfl rfl rfl hJ
        case o9 =>
          intro W hO hJ;rintro _ rfl;change wpList _ _ _ _ _ _
          have hb : Below w3.heap.size w3 W:=hJ
          have hc:=(HK3.out.below hb hgU3).cell 4
          simp only [turnC,List.getElem?_cons_zero,List.getElem?_cons_succ] at hc
          rw [ha] at hc
          clear hb
          go_wp2;exact jA rfl rfl rfl hJ
        case o10 =>
          intro W hO hJ;rintro _ rfl;change wpList _ _ _ _ _ _
          have hb : Below w3.heap.size w3 W:=hJ
          have HBw:=kp hb
          have hbs:=hb.size
          clear hJ hb hO
          go_wp2_with fail
          refine (zS a W).mono ?_
          rintro e w5 ⟨g5,rfl,hown5,hg5,hb5⟩
          have HOw5:=kp (hown5.less (B':=B) (by omega));have HB5:=kp hb5;have hl5:=(hown5.block g5 rfl).2
          clear hown5 hb5
          go_wp2
          exact qW rfl rfl rfl (Only.of_below HB5.out) (HBw.out.trans (HB5.out.mono hbs)) ⟨g5,rfl,HOw5.out,by omega,by omega⟩
        case o11 =>
          intro W hO hJ;rintro _ ⟨g5,rfl,hown5,hng5,hgk5⟩;change wpList _ _ _ _ _ _
          have hb : Below w3.heap.size w3 W:=hJ
          have HBw:=kp hb;have HOw5:=kp hown5;have hl5:=(hown5.block g5 rfl).2
          have hbs:=hb.size
          clear hJ hb hO hown5
          go_wp2_with ((with_reducible show Sl 36);go_must (refine l4 rfl 40 50 (.tmp 35) rfl 9 Tryd.underlying40 yT (by omega) (by omega) _ (Value.slice (some ⟨g5,0,none⟩) 1 1 :: zeros 8) rfl rfl rfl ?_);intro g6 w6 hg6 hk6 hb6;have HK6:=kp hk6;have HB6:=kp hb6;clear hk6 hb6)
          exact qW rfl rfl rfl (Only.of_below HB6.out) (HBw.out.trans (HB6.out.mono hbs)) ⟨g6,g5,rfl,HK6.out,by omega,HOw5.out.below HB6.out (Nat.le_refl _),hng5,hgk5⟩
        case o12 =>
          intro W hO hJ;rintro _ rfl;rintro _ ⟨gn,g5,rfl,hbk,hng,hown5,hng5,hgk5⟩;change wpList _ _ _ _ _ _
          have hb : Below w3.heap.size w3 W:=hJ
          have HBw:=kp hb;have HBk:=kp hbk;have HOw5:=kp hown5
          have HOw:=kp (HSt3.out.below hb (Nat.le_refl _)).row
          have hOw : OwnR 9 tvV W B 50 (.slice (some ⟨gT,0,none⟩) q1.len q1.cap) (q1.tvs.set k ⟨th1.sv,th1.slots.set al (q1.len + 1)⟩):=by have h:=HOw.out;rw [show (q1.put k ⟨th1.sv,th1.slots.set al (q1.len + 1)⟩).A = some ⟨gT,0,none⟩ from HA.out] at h;exact h
          clear hJ hO hb hbk hown5
          go_wp2_with (at_builtin;go_must (refine qF rfl (.tmp 29) (.tmp 36) 40 rfl B 50 9 _ 88 Tryd.underlying40 xW rfl (by omega) tvV JB gT q1.cap q1.len _ HLen.out (newT a g5) rfl hOw hroom gn 1 rfl HBk.out (by omega) ?_);intro w6 hown6 hgr6)
          exact qW rfl rfl rfl (Only.of_grown hgr6 (.inl rfl)) ⟨g5,lH (q8 HBw.out _) hgr6,hown6,HOw5.out.far hgr6 (.inr (fun e => hng5 (.inl (by cases e;rfl)))),hgk5⟩ rfl
        case o13 => intro p W hO hJ;rintro _ rfl;change wpList _ _ _ _ _ _;go_wp2;exact jA rfl rfl rfl hJ
        case o14 => intro p W hO hJ;rintro _ rfl;change wpList _ _ _ _ _ _;go_wp2;exact jA rfl rfl rfl hJ
        case o15 =>
          intro W hO hJ;rintro _ rfl;rintro _ rfl;change wpList _ _ _ _ _ _
          have hJ1 : ∃ g,w3.grownBy W (some gT) ∧ OwnR 9 tvV W B 50 (.slice (some ⟨gT,0,none⟩) (q1.len + 1) q1.cap) ((q1.tvs.set k ⟨th1.sv,th1.slots.set al (q1.len + 1)⟩) ++ [newT a g]) ∧ OwnR 2 frV W B 52 (.slice (some ⟨g,0,none⟩) 1 1) [(a,0)] ∧ w3.heap.size ≤ g:=hJ
          obtain ⟨g,hg0,hrow0,hown0,hgk⟩:=hJ1
          have HKw:=kp (HSt3.out.conf.grown hg0 (fun e => hTN (by cases e;rfl)))
          have HG0:=kp hg0;have HRow0:=kp hrow0;have HOw0:=kp hown0
          clear hJ hO hg0 hrow0 hown0
          go_wp2_with ((with_reducible show Sn);go_must (refine jF rfl 40 (.tmp 39) (.tmp 37) rfl gN 0 (.slice (some ⟨gT,0,none⟩) (q1.len + 1) q1.cap) rfl rfl rfl rfl _ _ HKw.out (by rw [HE2.out];simp) zB ?_);intro w7 hk7 hg7 hs7;have HFin:=kp (HSt3.out.push HA.out HG0.out HRow0.out (.inl rfl) HOw0.out hgk hk7 hg7 hs7);have HOn:=kp (Only.of_grown (G:=fun k => k = gT ∨ k = gN) hg7 (.inr rfl));clear hk7 hg7)
          exact xG rfl HOn.out ⟨_,HFin.out,HGoal.out _ _ _⟩
      case hend =>
        intro W hO hJ;rintro _ rfl;rintro _ rfl;rintro _ rfl;rintro _ rfl;rintro _ rfl;rintro _ rfl;rintro _ rfl;rintro _ rfl;rintro _ rfl;rintro _ rfl;rintro _ ⟨g5,rfl,hown5,hng5,hgk5⟩;rintro _ ⟨gn,g5b,rfl,hbk,hng,hown5b,hng5b,hgk5b⟩;rintro _ rfl;rintro _ rfl;rintro _ rfl
        simp only [ggiven,jI,List.set]
        have hJ2 : ∃ q3,St W B gN gU q3 ∧ q3.cf = M.act q.cf k x way:=hJ
        obtain ⟨q3,h3,h4⟩:=hJ2
        have HFin:=kp h3;have HCf3:=kp h4
        have HBe:=kp (HB3.out.trans (hO.below (B:=B) hBw3 (fun k hk => by rcases hk with rfl | rfl <;> omega)))
        clear hJ hO hbk hown5 hown5b h3 h4
        go_wp2
        go_end0
        exact ⟨rfl,_,HFin.out,HCf3.out,HBe.out⟩
    · have HFull : Kept (q1.cap = q1.len):=kp (by omega)
      clear hroom
      apply jJ 15 (.is _ :: .is _ :: .is _ :: .is _ :: .is _ :: .is _ :: .is _ :: .is _ :: .is _ :: .is _ :: Fact.begun B a w3.heap.size :: Fact.thread B a w3.heap.size :: Fact.threads B a w3.heap.size (q1.len + 1) (q1.tvs.set k ⟨th1.sv,th1.slots.set al (q1.len + 1)⟩) :: .is _ :: .is _ :: [])
        [[],[],[(1,26)],[(2,27)],[(3,28)],[],[(5,30)],[(6,31)],[(7,32)],[(8,33)],[(9,34)],[(10,35)],[(4,29),(11,36)],[(0,25)],[(13,38)],[(14,39),(12,37)]]
        [(0,25),(1,26),(2,27),(3,28),(4,29),(5,30),(6,31),(7,32),(8,33),(9,34),(10,35),(11,36),(12,37),(13,38),(14,39)] (by kernel_rfl) (by kernel_rfl) (by kernel_rfl) (by kernel_rfl) (by kernel_rfl)
      case hob =>
        refine ⟨?o0,?o1,?o2,?o3,?o4,?o5,?o6,?o7,?o8,?o9,?o10,?o11,?o12,?o13,?o14,trivial⟩
        case o0 => intro W hW;change wpList _ _ _ _ _ _;go_wp2;exact j3 rfl rfl rfl
        case o1 => intro W hW;change wpList _ _ _ _ _ _;go_wp2;exact j3 rfl rfl rfl
        case o2 => intro W hW;rintro _ rfl;change wpList _ _ _ _ _ _;go_wp2;exact j3 rfl rfl rfl
        case o3 => intro W hW;rintro _ rfl;change wpList _ _ _ _ _ _;go_wp2;exact j3 rfl rfl rfl
        case o4 =>
          intro W hW;rintro _ rfl;change wpList _ _ _ _ _ _
          have hc:=(hW.cell (p:=⟨gN,0,none⟩) hgN3).trans HCn3.out
          go_wp2;exact j3 rfl rfl rfl
        case o5 => intro W hW;change wpList _ _ _ _ _ _;go_wp2;exact j3 rfl rfl rfl
        case o6 => intro W hW;rintro _ rfl;change wpList _ _ _ _ _ _;go_wp2;exact j3 rfl rfl rfl
        case o7 => intro W hW;rintro _ rfl;change wpList _ _ _ _ _ _;go_wp2;exact j3 rfl rfl rfl
        case o8 => intro W hW;rintro _ rfl;change wpList _ _ _ _ _ _;go_wp2;exact j3 rfl rfl rfl
        case o9 =>
          intro W hW;rintro _ rfl;change wpList _ _ _ _ _ _
          have hc:=(HK3.out.below hW hgU3).cell 4
          simp only [turnC,List.getElem?_cons_zero,List.getElem?_cons_succ] at hc
          rw [ha] at hc
          go_wp2;exact j3 rfl rfl rfl
        case o10 =>
          intro W hW;rintro _ rfl;change wpList _ _ _ _ _ _
          have hbs:=hW.size
          clear hW
          go_wp2_with fail
          refine (zS a W).mono ?_
          rintro e w5 ⟨g5,rfl,hown5,hg5,hb5⟩
          have HOw5:=kp (hown5.less (B':=B) (by omega));have HB5:=kp hb5;have hl5:=(hown5.block g5 rfl).2
          clear hown5 hb5
          go_wp2
          exact jE rfl rfl rfl HB5.out ⟨g5,rfl,HOw5.out,by omega⟩
        case o11 =>
          intro W hW;rintro _ ⟨g5,rfl,hown5,hgk5⟩;change wpList _ _ _ _ _ _
          have HOw5:=kp hown5;have hl5:=(hown5.block g5 rfl).2
          clear hW hown5
          go_wp2_with ((with_reducible show Sl 36);go_must (refine l4 rfl 40 50 (.tmp 35) rfl 9 Tryd.underlying40 yT (by omega) (by omega) _ (Value.slice (some ⟨g5,0,none⟩) 1 1 :: zeros 8) rfl rfl rfl ?_);intro g6 w6 hg6 hk6 hb6;have HK6:=kp hk6;have HB6:=kp hb6;clear hk6 hb6)
          exact jE rfl rfl rfl HB6.out ⟨g6,g5,rfl,HK6.out,HOw5.out.below HB6.out (Nat.le_refl _),hgk5⟩
        case o12 =>
          intro W hW;rintro _ rfl;rintro _ ⟨gn,g5,rfl,hbk,hown5,hgk5⟩;change wpList _ _ _ _ _ _
          have HBk:=kp hbk;have HOw5:=kp hown5;have hl5:=(hown5.block g5 rfl).2
          have HOw:=kp (HSt3.out.below hW (Nat.le_refl _)).row
          have hOw : OwnR 9 tvV W B 50 (.slice (some ⟨gT,0,none⟩) q1.len q1.cap) (q1.tvs.set k ⟨th1.sv,th1.slots.set al (q1.len + 1)⟩):=by have h:=HOw.out;rw [show (q1.put k ⟨th1.sv,th1.slots.set al (q1.len + 1)⟩).A = some ⟨gT,0,none⟩ from HA.out] at h;exact h
          have hWs:=hW.size
          clear hW hbk hown5
          go_wp2_with (at_builtin;go_must (refine qG rfl (.tmp 29) (.tmp 36) 40 rfl B 50 9 _ 88 Tryd.underlying40 xW rfl (by omega) tvV JB gT q1.cap q1.len _ HLen.out (newT a g5) rfl hOw HFull.out gn 1 rfl HBk.out (by unfold maxLen;omega) (by omega) (by omega) ?_);intro g6 c6 w6 hown6 hb6 hg6)
          exact jE rfl rfl rfl hb6 ⟨g5,g6,c6,rfl,hown6,HOw5.out.below hb6 (Nat.le_refl _),hgk5,by omega,by omega⟩
        case o13 => intro W hW;rintro _ rfl;change wpList _ _ _ _ _ _;go_wp2;exact j3 rfl rfl rfl
        case o14 => intro W hW;rintro _ rfl;change wpList _ _ _ _ _ _;go_wp2;exact j3 rfl rfl rfl
      case hend =>
        intro W hW;rintro _ rfl;rintro _ rfl;rintro _ rfl;rintro _ rfl;rintro _ rfl;rintro _ rfl;rintro _ rfl;rintro _ rfl;rintro _ rfl;rintro _ rfl;rintro _ ⟨g5,rfl,hown5,hgk5⟩;rintro _ ⟨gn,g5b,rfl,hbk,hown5b,hgk5b⟩;rintro _ ⟨g5c,g6,c6,rfl,hrow6,hown6,hgk6,hg6,hne6⟩;rintro _ rfl;rintro _ rfl
        simp only [given,jI,List.set,List.drop]
        have HKw:=kp (HSt3.out.conf.below hW hgN3)
        have HBw:=kp (HB3.out.trans (hW.mono hBw3))
        have HRow6:=kp hrow6;have HOw6:=kp hown6
        have hWs:=hW.size
        have HGr:=kp (q8 hW (some gT))
        clear hW hbk hown5 hown5b hown6 hrow6
        go_wp2_with ((with_reducible show Sn);go_must (refine jF rfl 40 (.tmp 39) (.tmp 37) rfl gN 0 (.slice (some ⟨g6,0,none⟩) (q1.len + 1) c6) rfl rfl rfl rfl _ _ HKw.out (by rw [HE2.out];simp) zB ?_);intro w7 hk7 hg7 hs7;have HFin:=kp (HSt3.out.push HA.out HGr.out HRow6.out (.inr ⟨hg6,hne6⟩) HOw6.out hgk6 hk7 hg7 hs7);have HB7:=kp (HBw.out.grown hg7 (by omega) (fun k e => by cases e;exact hlow));clear hk7 hg7)
        go_end0
        exact ⟨rfl,_,HFin.out,HGoal.out _ _ _,HB7.out⟩
end Go.Proofs.YtoekiejipdabmaaDoor
