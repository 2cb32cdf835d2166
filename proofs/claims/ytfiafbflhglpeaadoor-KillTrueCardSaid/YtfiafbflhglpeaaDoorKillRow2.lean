/- Who began with what, as memory. -/
import Derived.Test.YtfiafbflhglpeaaDoorPk11
import Derived.Test.YtfiafbflhglpeaaDoorPk16
import Derived.Test.YtfiafbflhglpeaaDoorPk14
import Derived.Test.YtfiafbflhglpeaaDoorPk9
namespace Go.Proofs.YtfiafbflhglpeaaDoor
open Go.RowKit
theorem glob_lt {p : Pg} (hc : Q.Counts p) {x : Nd} {nodes : Nat} (h : Q.may p.g p.l p.s p.len x nodes = true) (hk : x.kind = 1 ∨ x.kind = 2) : x.arg < 16:=by
  unfold Q.may at h
  simp only [Bool.and_eq_true,decide_eq_true_eq,List.all_eq_true,List.mem_range] at h
  obtain ⟨_,hall⟩:=h
  have a0:=hall 0 (by omega)
  simp only [Q.fields,List.getD_cons_zero] at a0
  have hrow : Q.row x.kind = [103,110,45]:=by rcases hk with hk | hk <;> rw [hk] <;> rfl
  rw [hrow] at a0
  simp [Q.size] at a0
  have:=hc.g
  omega
theorem QC {p : Pg} {fs : List Nat} {c : M.Cf} (hf : Fine p) (hl : p.fns.length = p.len) (hg : M.Good p c) (hb : Begun p fs c) {t : Int} {way : Bool} (h : (M.step p c t way).ths.length = c.ths.length) : Begun p fs (M.step p c t way):=by
  cases he : M.enabled p c t with
  | false => rw [M.step_same he];exact hb
  | true =>
    obtain ⟨h0,h1⟩:=M.enabled_split he
    have hst : M.step p c t way = M.act c t.toNat (M.node p c t.toNat) way:=by unfold M.step;rw [he];rfl
    rw [hst] at h ⊢
    have hb2:=vW hf hl hg hb way h1
    rw [M.act_len] at h
    by_cases k5 : (M.node p c t.toNat).kind = 5
    · rw [if_pos k5] at h;omega
    · rwa [if_neg k5] at hb2
theorem QD {p : Pg} {fs : List Nat} {c : M.Cf} (hf : Fine p) (hl : p.fns.length = p.len) (hg : M.Good p c) (hb : Begun p fs c) {t : Int} {way : Bool} (h : (M.step p c t way).ths.length ≠ c.ths.length) :
    ∃ a : Nat,(atNd p c t).arg = (a : Int) ∧ Begun p (fs ++ [a]) (M.step p c t way) ∧ (M.step p c t way).ths.length = c.ths.length + 1:=by
  cases he : M.enabled p c t with
  | false => rw [M.step_same he] at h;exact absurd rfl h
  | true =>
    obtain ⟨h0,h1⟩:=M.enabled_split he
    have hst : M.step p c t way = M.act c t.toNat (M.node p c t.toNat) way:=by unfold M.step;rw [he];rfl
    obtain ⟨k,hk⟩ : ∃ k : Nat,t = (k : Int):=⟨t.toNat,by omega⟩
    have hlv:=M.enabled_lives h1
    have hat : atNd p c t = M.node p c t.toNat:=by rw [hk,Int.toNat_natCast] at *;exact y7 (by rw [M.lives_nat];exact hlv) rfl
    obtain ⟨fn,hfn,_⟩:=M.node_is hg hlv
    have hfit:=M.node_fit hf hg hlv hfn
    rw [hst] at h ⊢
    have hb2:=vW hf hl hg hb way h1
    rw [M.act_len] at h ⊢
    by_cases k5 : (M.node p c t.toNat).kind = 5
    · rw [if_pos k5] at hb2 ⊢
      exact ⟨(M.node p c t.toNat).arg.toNat,by rw [hat];have:=hfit.arg;omega,hb2,rfl⟩
    · rw [if_neg k5] at h;exact absurd rfl h
theorem y1 {w : World} {B g : Nat} {e t : TypeId} {v : Value} {xs cs : List Value} (h : Own w B e v xs) (hb : Blk w g t cs) (hne : e ≠ t) : v.ownBlock ≠ some g:=by
  intro e1
  rcases h.2 with ⟨rfl,_⟩ | ⟨q,cap,cur,rfl,_,hg,_⟩
  · cases e1
  · injection e1 with e1
    have e1 : q = g:=e1
    subst e1
    unfold Blk at hb
    rw [hg] at hb
    injection hb with hb
    injection hb with _ h2
    exact hne h2
theorem XK {w w' : World} {B B2 : Nat} {q : Pc} {v v' : Value} {xs : List Value} (h : Mine w B q) (ho : Own w B2 3 v xs) (hg : Grew w w' v v') : Mine w' B q:=by
  cases hv : v.ownBlock with
  | none =>
    have h1:=hg.1
    rw [hv] at h1
    exact ⟨h.row.far h1 (by
      cases hr : (Value.slice q.A q.len q.cap).ownBlock with
      | none => exact .inl rfl
      | some b => exact .inr fun e => by cases e),⟨fun k x hx => (h.fam.own k x hx).far h1 (by
      cases hr : (svV x).ownBlock with
      | none => exact .inl rfl
      | some b => exact .inr fun e => by cases e),h.fam.out,h.fam.apart⟩⟩
  | some g =>
    have h1:=hg.1
    rw [hv] at h1
    rcases ho.2 with ⟨rfl,_⟩ | ⟨q2,cap,cur,rfl,_,hgb,_⟩
    · cases hv
    · injection hv with hv
      have hv : q2 = g:=hv
      subst hv
      have hb : Blk w q2 3 cur.toList:=by unfold Blk;rw [hgb]
      exact h.far h1 (fun b hr e => h.row.typed hb (by decide) (by rw [hr,e])) (fun k y b hy hr e => (h.fam.own k y hy).typed hb (by decide) (by rw [hr,e]))
end Go.Proofs.YtfiafbflhglpeaaDoor
