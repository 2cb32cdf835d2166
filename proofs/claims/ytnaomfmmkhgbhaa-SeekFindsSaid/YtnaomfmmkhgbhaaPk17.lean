/- ScriptMath, ScriptR1. -/
import Derived.Test.YtnaomfmmkhgbhaaPk10
import Derived.BigQuiet
namespace Go.Proofs.Ytnaomfmmkhgbhaa.M
def pb (x : Int × Bool) : Nat:=x.1.toNat + (if x.2 then 8 else 0)
end Go.Proofs.Ytnaomfmmkhgbhaa.M
namespace Go.Proofs.Ytnaomfmmkhgbhaa
open Go.RowKit
set_option maxRecDepth 100000 in
set_option maxHeartbeats 1600000 in
theorem rc_same (B : Nat) (A A2 : Option Addr) (n c n2 c2 : Nat) (z z2 : List (Int × Bool)) (w : World) (hp : Picks w B A n z) (hq : Picks w B A2 n2 z2) (hn : n ≤ 5000) (hn2 : n2 ≤ 5000) (b : Bool) (hb : b = true ↔ z = z2) :
    Calls Try.prog 13 #[.slice A n c,.slice A2 n2 c2] w fun e w' => e = .returned (.bool b) ∧ Below w.heap.size w w':=by
  have HP:=kp hp;have HQ:=kp hq;have HLn:=kp hp.1.len;have HLq:=kp hq.1.len;have HBb:=kp hb
  clear hp hq hb
  by_cases he : n = n2
  case neg =>
    have hb1 : (n != n2) = true:=by rw [bne_iff_ne];exact he
    have HF : Kept (b = false):=kp (by
      cases b with
      | false => rfl
      | true => exact absurd (by rw [← HLn.out,HBb.out.1 rfl,HLq.out]) he)
    rw [HF.out]
    go_enter Try.func13,Try.ntmps13
    go_wp2
    go_ret
    exact ⟨rfl,Below.refl _ _⟩
  case pos =>
    subst he
    go_enter Try.func13,Try.ntmps13
    go_wp2
    go_loopw [5] (fun v5 wr => ∃ i : Nat,i ≤ n ∧ v5 = .int .i64 i ∧ (∀ (j : Nat),j < i → z[j]? = z2[j]?) ∧ Below w.heap.size w wr ∧ ∀ p : Addr,wr.cell? p = w.cell? p) (fun v5 _ => n - (intOf v5).toNat)
    case atStart => exact ⟨0,by omega,rfl,(fun _ h => by omega),Below.refl _ _,fun _ => rfl⟩
    case round =>
      obtain ⟨i,hi,rfl,hbef,hbw,hcl⟩:=hrel
      have HBef:=kp hbef;have HBw:=kp hbw;have HCl:=kp hcl
      have HPr:=kp (HP.out.keep (w':=wr) fun p _ => hcl p);have HQr:=kp (HQ.out.keep (w':=wr) fun p _ => hcl p)
      clear hbef hbw hcl
      by_cases hlt : i < n
      · obtain ⟨ad,x,rfl,_,hx,h0,hc⟩:=HPr.out.1.field hlt
        obtain ⟨ad2,y,rfl,_,hy,g0,gc⟩:=HQr.out.1.field hlt
        have HX:=kp hx;have HY:=kp hy
        have c0:=h0 (by omega);have c1:=hc 1 (by omega) (by omega)
        have d0:=g0 (by omega);have d1:=gc 1 (by omega) (by omega)
        clear h0 hc g0 gc hx hy
        obtain ⟨xw,xb⟩:=x
        obtain ⟨yw,yb⟩:=y
        replace c0 : wr.cell? (ad.add (i * 2)) = some (.int .i64 xw):=c0
        replace c1 : wr.cell? ⟨(ad.add (i * 2)).block,(ad.add (i * 2)).off + 1,none⟩ = some (.bool xb):=c1
        replace d0 : wr.cell? (ad2.add (i * 2)) = some (.int .i64 yw):=d0
        replace d1 : wr.cell? ⟨(ad2.add (i * 2)).block,(ad2.add (i * 2)).off + 1,none⟩ = some (.bool yb):=d1
        by_cases e1 : xw = yw
        · by_cases e2 : xb = yb
          · subst e1
            subst e2
            have h1 : (xw == xw) = true:=by rw [beq_iff_eq]
            have h2 : (xb == xb) = true:=by rw [beq_iff_eq]
            go_wp2
            go_quiet (fail)
            go_wp2
            go_roundw
            case rel =>
              refine ⟨i + 1,by omega,by go_num,fun j hj => ?_,below_drewN HBw.out _,HCl.out⟩
              by_cases e : j = i
              · subst e
                rw [HX.out,HY.out]
              · exact HBef.out j (by omega)
            case measure => simp [intOf];omega
          · have HF : Kept (b = false):=kp (by
              cases b with
              | false => rfl
              | true =>
                have e:=HBb.out.1 rfl
                have h5:=HX.out
                rw [e,HY.out] at h5
                injection h5 with h5
                injection h5 with h6 h7
                exact absurd h7.symm e2)
            have h1 : (xw == yw) = true:=by rw [beq_iff_eq];exact e1
            have h2 : (xb == yb) = false:=by rw [beq_eq_false_iff_ne];exact e2
            clear e1 e2
            go_wp2
            go_quiet (fail)
            go_wp2
            go_ret
            exact ⟨jG HF.out.symm,below_drewN HBw.out _⟩
        · have HF : Kept (b = false):=kp (by
            cases b with
            | false => rfl
            | true =>
              have e:=HBb.out.1 rfl
              have h5:=HX.out
              rw [e,HY.out] at h5
              injection h5 with h5
              injection h5 with h6 h7
              exact absurd h6.symm e1)
          have h1 : (xw == yw) = false:=by rw [beq_eq_false_iff_ne];exact e1
          clear e1
          go_wp2
          go_quiet (fail)
          go_wp2
          go_ret
          exact ⟨jG HF.out.symm,below_drewN HBw.out _⟩
      · have hge : n ≤ i:=by omega
        have HT : Kept (b = true):=kp (HBb.out.2 (by
          apply List.ext_getElem?
          intro j
          rcases Nat.lt_or_ge j n with hj | hj
          · exact HBef.out j (by omega)
          · rw [List.getElem?_eq_none (by rw [HLn.out];exact hj),List.getElem?_eq_none (by rw [HLq.out];exact hj)]))
        clear hlt
        go_wp2
        go_ret
        exact ⟨jG HT.out.symm,HBw.out⟩
end Go.Proofs.Ytnaomfmmkhgbhaa
