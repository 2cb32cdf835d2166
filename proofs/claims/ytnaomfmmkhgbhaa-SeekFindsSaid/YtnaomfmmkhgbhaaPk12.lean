/- SeekM, Tail0. -/
import Derived.Test.YtnaomfmmkhgbhaaSeekP1
import Derived.Test.YtnaomfmmkhgbhaaPk11
import Derived.Maps.OwnOps
import Derived.Maps.Views
import Derived.Test.YtnaomfmmkhgbhaaPk3
import Derived.Deep.RegionHeld3
namespace Go.Proofs.Ytnaomfmmkhgbhaa
open Go.RowKit
theorem OwnT.ty {α : Type} {sz : Nat} {f : α → Nat → Value} {w : World} {B n cap : Nat} {e : TypeId} {A : Option Addr} {l : List α} (h : OwnT sz f w B e A n cap l) : ∀ k,(Value.slice A n cap).ownBlock = some k → Ty w k = some e:=by
  intro k hk
  rcases h.2.2.2 with ⟨rfl,_⟩ | ⟨g,off,cur,rfl,_,hg,_⟩
  · cases hk
  · have : g = k:=by simpa [Value.ownBlock] using hk
    subst this
    exact hg.ty
def orV (e : K.En) : Nat → Value
  | 0 => .int .i64 (e.src : Int)
  | 1 => .int .i64 (e.who : Int)
  | _ => .bool e.way
theorem orV_one (e : K.En) (j : Nat) : (orV e j).oneCell' = true:=by
  rcases j with _ | _ | j <;> rfl
def cfV (q : Pc) (j : Nat) : Value:=(pcC q).getD j (.int .i64 0)
theorem cfV_one (q : Pc) (j : Nat) : (cfV q j).oneCell' = true:=by
  unfold cfV
  rw [List.getD_eq_getElem?_getD]
  cases h : (pcC q)[j]? with
  | none => rfl
  | some v => exact jW q v (List.mem_of_getElem? h)
theorem QY {q : Pc} (h : q.ow.length = 16) {j : Nat} (hj : j < 17) : (pcC q)[j]? = some (cfV q j):=by
  unfold cfV
  rw [List.getD_eq_getElem?_getD,List.getElem?_eq_getElem (by rw [jT h];exact hj)];rfl
def keyLit (bs : List Nat) : Lit:=.string (bs.map UInt8.ofNat)
theorem keyLit_inj : ∀ {a b : List Nat},(∀ x ∈ a,x < 256) → (∀ x ∈ b,x < 256) → keyLit a = keyLit b → a = b:=by
  intro a b ha hb h
  have h1 : a.map UInt8.ofNat = b.map UInt8.ofNat:=by
    unfold keyLit at h
    injection h
  have h2:=congrArg (List.map UInt8.toNat) h1
  rw [List.map_map,List.map_map] at h2
  have key : ∀ l : List Nat,(∀ x ∈ l,x < 256) → l.map (UInt8.toNat ∘ UInt8.ofNat) = l:=fun l hl => by
    conv => rhs;rw [← List.map_id l]
    refine List.map_congr_left fun x hx => ?_
    have:=hl x hx
    simp [Nat.mod_eq_of_lt this]
  rw [key a ha,key b hb] at h2
  exact h2
def MapIs (D : DataW Unit) (m : List (List Nat)) : Prop:=Maps.IsMap D ∧ ∀ ks : List Nat,(∀ b ∈ ks,b < 256) → D.atKey (keyLit ks) (.lit (.bool false)) = .lit (.bool (decide (ks ∈ m)))
theorem MapIs.nil : MapIs (.map []) []:=⟨Maps.isMap_empty,fun ks _ => by simp [DataW.atKey]⟩
theorem MapIs.put {D : DataW Unit} {m : List (List Nat)} (h : MapIs D m) {k : List Nat} (hk : ∀ b ∈ k,b < 256) : MapIs (D.put (keyLit k) (.lit (.bool true))) (m ++ [k]):=by
  refine ⟨h.1.put _ _,fun ks hks => ?_⟩
  by_cases e : ks = k
  · subst e
    rw [Maps.atKey_put_same h.1 (by unfold keyLit;trivial),decide_eq_true (by simp)]
  · rw [Maps.atKey_put_other (fun x => e (keyLit_inj hks hk x)),h.2 ks hks]
    congr 2
    rw [Bool.eq_iff_iff,decide_eq_true_eq,decide_eq_true_eq]
    simp [e]
structure Sr where
  LA : Option Addr
  ln : Nat
  lc : Nat
  QA : Option Addr
  qn : Nat
  qc : Nat
  gM : Nat
  KA : Option Addr
  kn : Nat
  kc : Nat
  left : Bool
def srC (p : Pg) (most : Int) (r : Sr) : List Value:=[.int .i64 p.g,.int .i64 p.l,.int .i64 p.s,.slice p.A p.len p.cap,.int .i64 most,.slice r.LA r.ln r.lc,.slice r.QA r.qn r.qc,.map (some r.gM),.slice r.KA r.kn r.kc,.bool r.left]
def SkT (r : Sr) (gS k : Nat) : Prop:=k = gS ∨ k = r.gM ∨ (Value.slice r.LA r.ln r.lc).ownBlock = some k ∨ (Value.slice r.QA r.qn r.qc).ownBlock = some k ∨ (Value.slice r.KA r.kn r.kc).ownBlock = some k
structure SkP (w : World) (B gS : Nat) (p : Pg) (most : Int) (r : Sr) (l : List K.En) (m : List (List Nat)) (qs : List Pc) : Prop where
  blk : Blk w gS 61 (srC p most r)
  low : B ≤ gS
  list : OwnT 3 orV w B 64 r.LA r.ln r.lc l
  opn : OwnT 17 cfV w B 46 r.QA r.qn r.qc qs
  key : ∃ ks : List Nat,Own w B 5 (.slice r.KA r.kn r.kc) (ks.map byteV) ∧ ks.length ≤ 500
  map : B ≤ r.gM ∧ ∃ D,w.ownsMap Try.prog 9 (plainElem Try.prog 4) r.gM m.length D ∧ MapIs D m
  confs : ∀ q ∈ qs,Mine w B q ∧ q.ow.length = 16
structure SkM (w : World) (B gS : Nat) (p : Pg) (most : Int) (r : Sr) (s : K.Sk) (i : Nat) (qs : List Pc) : Prop where
  pt : SkP w B gS p most r s.all (s.all.map fun e => K.key p e.cf) qs
  left : r.left = s.left
  cfs : qs.map Pc.cf = (s.all.drop i).map (·.cf)
  le : i ≤ s.all.length
section
variable {w w' : World} {B gS : Nat} {p : Pg} {most : Int} {r : Sr} {s : K.Sk} {i : Nat} {qs : List Pc} {l : List K.En} {m : List (List Nat)}
theorem vG {w : World} {k : TypeId} {R : Value → Option (DataW Unit × List MemPlace)} {b n : Nat} {D : DataW Unit} {P : Program} (h : w.ownsMap P k R b n D) : Ty w b = none:=by
  obtain ⟨es,clock,hb,_⟩:=h
  unfold Ty;rw [hb]
theorem SkP.lt (h : SkP w B gS p most r l m qs) {k : Nat} (hk : SkT r gS k) : B ≤ k ∧ k < w.heap.size:=by
  rcases hk with rfl | rfl | hk | hk | hk
  · exact ⟨h.low,h.blk.lt⟩
  · obtain ⟨hB,D,hD,_⟩:=h.map
    exact ⟨hB,hD.lt⟩
  · exact h.list.block k hk
  · exact h.opn.block k hk
  · obtain ⟨ks,hk2,_⟩:=h.key
    exact hk2.block k hk
theorem SkP.ty (h : SkP w B gS p most r l m qs) {k : Nat} (hk : SkT r gS k) : ¬ (Ty w k = some 94 ∨ Ty w k = some 133):=by
  rcases hk with rfl | rfl | hk | hk | hk
  · rw [h.blk.ty];decide
  · obtain ⟨_,D,hD,_⟩:=h.map
    rw [vG hD];simp
  · rw [h.list.ty k hk];decide
  · rw [h.opn.ty k hk];decide
  · obtain ⟨ks,hk2,_⟩:=h.key
    rw [hk2.ty k hk];decide
theorem SkP.held {S : Nat → Prop} (h : SkP w B gS p most r l m qs) (hb : Held S w w') (hS : ∀ k,SkT r gS k → S k) (hT : ∀ k,k < w.heap.size → Ty w k = some 94 ∨ Ty w k = some 133 → S k) : SkP w' B gS p most r l m qs:=by
  obtain ⟨hB,D,hD,hMI⟩:=h.map
  obtain ⟨ks,hks,hkl⟩:=h.key
  refine ⟨h.blk.held hb (hS gS (.inl rfl)),h.low,h.list.heldAt hb fun k hk => hS k (.inr (.inr (.inl hk))),h.opn.heldAt hb fun k hk => hS k (.inr (.inr (.inr (.inl hk)))),⟨ks,hks.heldAt hb fun k hk => hS k (.inr (.inr (.inr (.inr hk)))),hkl⟩,⟨hB,D,?_,hMI⟩,fun q hq => ⟨(h.confs q hq).1.held hb hT,(h.confs q hq).2⟩⟩
  obtain ⟨es,clock,hb2,rest⟩:=hD
  exact ⟨es,clock,(hb.block _ (hS r.gM (.inr (.inl rfl)))).trans hb2,rest⟩
theorem SkM.held {S : Nat → Prop} (h : SkM w B gS p most r s i qs) (hb : Held S w w') (hS : ∀ k,SkT r gS k → S k) (hT : ∀ k,k < w.heap.size → Ty w k = some 94 ∨ Ty w k = some 133 → S k) : SkM w' B gS p most r s i qs:=⟨h.pt.held hb hS hT,h.left,h.cfs,h.le⟩
theorem SkP.below {C : Nat} (h : SkP w B gS p most r l m qs) (hb : Below C w w') (hC : w.heap.size ≤ C) : SkP w' B gS p most r l m qs :=
  h.held (Held.of_below (S:=fun k => k < w.heap.size) hb fun _ hk => Nat.lt_of_lt_of_le hk hC) (fun _ hk => (h.lt hk).2) fun _ hk _ => hk
theorem SkM.below {C : Nat} (h : SkM w B gS p most r s i qs) (hb : Below C w w') (hC : w.heap.size ≤ C) : SkM w' B gS p most r s i qs:=⟨h.pt.below hb hC,h.left,h.cfs,h.le⟩
theorem SkP.grown {g : Nat} (h : SkP w B gS p most r l m qs) (hg : w.grownBy w' (some g)) (hn : ¬ SkT r gS g) (hT : ¬ (Ty w g = some 94 ∨ Ty w g = some 133)) : SkP w' B gS p most r l m qs :=
  h.held (Held.of_grown (S:=fun k => k < w.heap.size ∧ k ≠ g) hg fun _ hk => ⟨hk.1,fun e => hk.2 (Option.some.inj e)⟩) (fun _ hk => ⟨(h.lt hk).2,fun e => hn (e ▸ hk)⟩) fun _ hk ht => ⟨hk,fun e => hT (e ▸ ht)⟩
theorem J7 {g : Nat} {cs : List Value} (h : Blk w g 46 cs) : ¬ (Ty w g = some 94 ∨ Ty w g = some 133):=by rw [h.ty];decide
theorem SkM.grown {g : Nat} (h : SkM w B gS p most r s i qs) (hg : w.grownBy w' (some g)) (hn : ¬ SkT r gS g) (hT : ¬ (Ty w g = some 94 ∨ Ty w g = some 133)) : SkM w' B gS p most r s i qs :=
  h.held (Held.of_grown (S:=fun k => k < w.heap.size ∧ k ≠ g) hg fun _ hk => ⟨hk.1,fun e => hk.2 (Option.some.inj e)⟩) (fun _ hk => ⟨(h.pt.lt hk).2,fun e => hn (e ▸ hk)⟩) fun _ hk ht => ⟨hk,fun e => hT (e ▸ ht)⟩
theorem SkP.mine (h : SkP w B gS p most r l m qs) {S : Nat → Prop} (hb : Held S w w') (hS : ∀ k,k < w.heap.size → ¬ SkT r gS k → S k) {q : Pc} {B' : Nat} (hq : Mine w B' q) : Mine w' B' q :=
  hq.held hb fun k hk ht => hS k hk fun e => h.ty e ht
theorem ty_ne {a b : Nat} {x y : Option TypeId} (ha : Ty w a = x) (hb : Ty w b = y) (h : x ≠ y) : a ≠ b:=fun e => h (by rw [← ha,← hb,e])
theorem lQ (w : World) (g o : Nat) (v : Value) : w.grownBy (w.setCell ⟨g,o,none⟩ v) (some g) :=
  ⟨rfl,rfl,rfl,by simp,fun k _ hne => heap_setCell_other w ⟨g,o,none⟩ k v (fun e => hne (by rw [e]))⟩
structure SkR (w w' : World) (B gS : Nat) (x : Option TypeId) (r : Sr) (l : List K.En) (m : List (List Nat)) (qs : List Pc) : Prop where
  list : x ≠ some 64 → OwnT 3 orV w' B 64 r.LA r.ln r.lc l
  opn : x ≠ some 46 → OwnT 17 cfV w' B 46 r.QA r.qn r.qc qs
  key : x ≠ some 5 → ∃ ks : List Nat,Own w' B 5 (.slice r.KA r.kn r.kc) (ks.map byteV) ∧ ks.length ≤ 500
  map : x ≠ none → B ≤ r.gM ∧ ∃ D,w'.ownsMap Try.prog 9 (plainElem Try.prog 4) r.gM m.length D ∧ MapIs D m
  confs : x ≠ some 94 → x ≠ some 133 → ∀ (q : Pc) (B' : Nat),Mine w B' q → Mine w' B' q
theorem SkP.rest (h : SkP w B gS p most r l m qs) (x : Option TypeId) (hH : Held (fun k => k < w.heap.size ∧ Ty w k ≠ x ∧ k ≠ gS) w w') : SkR w w' B gS x r l m qs:=by
  have hsT : Ty w gS = some 61:=h.blk.ty
  have hS : ∀ k y,k < w.heap.size → Ty w k = y → y ≠ some 61 → x ≠ y → k < w.heap.size ∧ Ty w k ≠ x ∧ k ≠ gS:=fun k y hk ht h1 h2 => ⟨hk,fun e => h2 (by rw [← e,ht]),ty_ne ht hsT h1⟩
  obtain ⟨hB,D,hD,hMI⟩:=h.map
  obtain ⟨ks,hks,hkl⟩:=h.key
  refine ⟨fun hx => h.list.heldAt hH fun k hk => hS k _ (h.list.block k hk).2 (h.list.ty k hk) (by decide) hx,fun hx => h.opn.heldAt hH fun k hk => hS k _ (h.opn.block k hk).2 (h.opn.ty k hk) (by decide) hx,
    fun hx => ⟨ks,hks.heldAt hH fun k hk => hS k _ (hks.block k hk).2 (hks.ty k hk) (by decide) hx,hkl⟩,fun hx => ⟨hB,D,?_,hMI⟩,fun h1 h2 q B' hq => hq.held hH fun k hk ht => ?_⟩
  · have hD2:=hD
    obtain ⟨es,clock,hb2,rest⟩:=hD2
    exact ⟨es,clock,(hH.block _ (hS r.gM _ hD.lt (vG hD) (by simp) hx)).trans hb2,rest⟩
  · rcases ht with ht | ht
    · exact hS k _ hk ht (by decide) h1
    · exact hS k _ hk ht (by decide) h2
def SkS (w w' : World) (gS : Nat) (r r' : Sr) : Prop:=Held (fun k => k < w.heap.size ∧ ¬ SkT r gS k) w w' ∧ ∀ k,SkT r' gS k → SkT r gS k ∨ w.heap.size ≤ k
theorem SkS.trans {w1 : World} {r1 r2 : Sr} (h : SkS w w1 gS r r1) (k : SkS w1 w' gS r1 r2) : SkS w w' gS r r2:=by
  have hz:=h.1.size
  refine ⟨h.1.trans (k.1.less fun b hb => ⟨by omega,fun e => ?_⟩),fun b hb => ?_⟩
  · rcases h.2 b e with h1 | h1
    · exact hb.2 h1
    · omega
  · rcases k.2 b hb with h1 | h1
    · exact h.2 b h1
    · exact .inr (by omega)
theorem SkS.below {w1 : World} {C : Nat} (hb : Below C w w1) (hC : w.heap.size ≤ C) : SkS w w1 gS r r:=⟨Held.of_below hb fun _ hk => Nat.lt_of_lt_of_le hk.1 hC,fun _ hk => .inl hk⟩
theorem SkS.grown {g : Nat} (hg : w.grownBy w' (some g)) (hf : SkT r gS g ∨ w.heap.size ≤ g) : SkS w w' gS r r:=by
  refine ⟨Held.of_grown hg fun k hk => ⟨hk.1,fun e => ?_⟩,fun _ hk => .inl hk⟩
  have e2 : k = g:=Option.some.inj e
  subst e2
  rcases hf with h | h
  · exact hk.2 h
  · have:=hk.1;omega
theorem SkS.set {r' : Sr} (o : Nat) (v : Value) (hr : ∀ k,SkT r' gS k → SkT r gS k ∨ w.heap.size ≤ k) : SkS w (w.setCell ⟨gS,o,none⟩ v) gS r r' :=
  ⟨Held.of_grown (lQ w gS o v) fun _ hk => ⟨hk.1,fun e => hk.2 (.inl (Option.some.inj e))⟩,hr⟩
theorem SkP.grew {w3 : World} {x : TypeId} {v v' : Value} (h : SkP w B gS p most r l m qs) (hx : ∀ k,v.ownBlock = some k → Ty w k = some x) (hxs : x ≠ 61) (hg : Grew w w3 v v') (o : Nat) (u : Value) :
    Blk (w3.setCell ⟨gS,o,none⟩ u) gS 61 ((srC p most r).set o u) ∧ Held (fun k => k < w.heap.size ∧ Ty w k ≠ some x ∧ k ≠ gS) w (w3.setCell ⟨gS,o,none⟩ u) ∧ Held (fun k => k < w.heap.size ∧ k ≠ gS ∧ v.ownBlock ≠ some k) w (w3.setCell ⟨gS,o,none⟩ u):=by
  have hsT : Ty w gS = some 61:=h.blk.ty
  have hne : v.ownBlock ≠ some gS:=fun e => by
    have:=hx gS e
    rw [hsT] at this
    exact hxs (Option.some.inj this).symm
  have h3s:=hg.size
  have hH : Held (fun k => k < w.heap.size ∧ k ≠ gS ∧ v.ownBlock ≠ some k) w (w3.setCell ⟨gS,o,none⟩ u) :=
    (hg.held.less fun k hk => ⟨hk.1,hk.2.2⟩).trans (Held.of_grown (lQ w3 gS o u) fun k hk => ⟨by omega,fun e => hk.2.1 (Option.some.inj e)⟩)
  exact ⟨(h.blk.grew hg hne).set o u,hH.less fun k hk => ⟨hk.1,hk.2.2,fun e => hk.2.1 (hx k e)⟩,hH⟩
theorem SkP.keyed {w3 : World} (h : SkP w B gS p most r l m qs) {A3 : Option Addr} {kl c3 : Nat} {ks : List Nat} (hg : Grew w w3 (.slice r.KA 0 r.kc) (.slice A3 kl c3)) (ho : Own w3 B 5 (.slice A3 kl c3) (ks.map byteV)) (hk : ks.length ≤ 500) :
    SkP (w3.setCell ⟨gS,8,none⟩ (.slice A3 kl c3)) B gS p most { r with KA:=A3,kn:=kl,kc:=c3 } l m qs ∧ SkS w (w3.setCell ⟨gS,8,none⟩ (.slice A3 kl c3)) gS r { r with KA:=A3,kn:=kl,kc:=c3 } ∧ Own (w3.setCell ⟨gS,8,none⟩ (.slice A3 kl c3)) B 5 (.slice A3 kl c3) (ks.map byteV):=by
  obtain ⟨ks0,hks,_⟩:=h.key
  have hob : (Value.slice r.KA 0 r.kc).ownBlock = (Value.slice r.KA r.kn r.kc).ownBlock:=by cases r.KA <;> rfl
  obtain ⟨hb,hH1,hH2⟩:=h.grew (fun k hk => hks.ty k (by rw [← hob];exact hk)) (by decide) hg 8 (.slice A3 kl c3)
  have hR:=h.rest _ hH1
  have hown : Own (w3.setCell ⟨gS,8,none⟩ (.slice A3 kl c3)) B 5 (.slice A3 kl c3) (ks.map byteV):=by
    refine ho.far (lQ w3 gS 8 _) ?_
    cases hv : (Value.slice A3 kl c3).ownBlock with
    | none => exact .inl rfl
    | some b =>
      refine .inr fun e => ?_
      have h1:=ho.ty b hv
      have h2 : b = gS:=Option.some.inj e
      rcases hg.2 with h3 | h3
      · have h4:=hks.ty gS (by rw [← hob,← h3,← h2];exact hv)
        rw [h.blk.ty] at h4
        exact absurd h4 (by decide)
      · have h4:=h3 b hv
        have h5:=h.blk.lt
        omega
  refine ⟨⟨hb,h.low,hR.list (by decide),hR.opn (by decide),⟨ks,hown,hk⟩,hR.map (by decide),fun q hq => ⟨hR.confs (by decide) (by decide) q _ (h.confs q hq).1,(h.confs q hq).2⟩⟩,⟨hH2.less fun k hk => ⟨hk.1,fun e => hk.2 (.inl e),fun e => hk.2 (.inr (.inr (.inr (.inr (by rw [← hob];exact e)))))⟩,fun k hk => ?_⟩,hown⟩
  rcases hk with h1 | h1 | h1 | h1 | h1
  · exact .inl (.inl h1)
  · exact .inl (.inr (.inl h1))
  · exact .inl (.inr (.inr (.inl h1)))
  · exact .inl (.inr (.inr (.inr (.inl h1))))
  · rcases hg.2 with h2 | h2
    · exact .inl (.inr (.inr (.inr (.inr (by rw [← hob,← h2];exact h1)))))
    · exact .inr (h2 k h1)
theorem SkP.listed {w3 : World} (h : SkP w B gS p most r l m qs) {A3 : Option Addr} {n3 c3 : Nat} {l3 : List K.En} (hg : Grew w w3 (.slice r.LA r.ln r.lc) (.slice A3 n3 c3)) (ho : OwnT 3 orV w3 B 64 A3 n3 c3 l3) :
    SkP (w3.setCell ⟨gS,5,none⟩ (.slice A3 n3 c3)) B gS p most { r with LA:=A3,ln:=n3,lc:=c3 } l3 m qs ∧ SkS w (w3.setCell ⟨gS,5,none⟩ (.slice A3 n3 c3)) gS r { r with LA:=A3,ln:=n3,lc:=c3 }:=by
  obtain ⟨hb,hH1,hH2⟩:=h.grew h.list.ty (by decide) hg 5 (.slice A3 n3 c3)
  have hR:=h.rest _ hH1
  have hne : ∀ k,(Value.slice A3 n3 c3).ownBlock = some k → k ≠ gS:=fun k hk e => by
    rcases hg.2 with h3 | h3
    · have h4:=h.list.ty k (by rw [← h3];exact hk)
      rw [e,h.blk.ty] at h4
      exact absurd h4 (by decide)
    · have h4:=h3 k hk
      have h5:=h.blk.lt
      omega
  refine ⟨⟨hb,h.low,ho.far (lQ w3 gS 5 _) fun k hk e => hne k hk (Option.some.inj e),hR.opn (by decide),hR.key (by decide),hR.map (by decide),fun q hq => ⟨hR.confs (by decide) (by decide) q _ (h.confs q hq).1,(h.confs q hq).2⟩⟩,⟨hH2.less fun k hk => ⟨hk.1,fun e => hk.2 (.inl e),fun e => hk.2 (.inr (.inr (.inl e)))⟩,fun k hk => ?_⟩⟩
  rcases hk with h1 | h1 | h1 | h1 | h1
  · exact .inl (.inl h1)
  · exact .inl (.inr (.inl h1))
  · rcases hg.2 with h2 | h2
    · exact .inl (.inr (.inr (.inl (by rw [← h2];exact h1))))
    · exact .inr (h2 k h1)
  · exact .inl (.inr (.inr (.inr (.inl h1))))
  · exact .inl (.inr (.inr (.inr (.inr h1))))
theorem SkP.opened {w3 : World} (h : SkP w B gS p most r l m qs) {A3 : Option Addr} {n3 c3 : Nat} {q3 : List Pc} (hg : Grew w w3 (.slice r.QA r.qn r.qc) (.slice A3 n3 c3)) (ho : OwnT 17 cfV w3 B 46 A3 n3 c3 q3) (hq3 : ∀ q ∈ q3,Mine w B q ∧ q.ow.length = 16) :
    SkP (w3.setCell ⟨gS,6,none⟩ (.slice A3 n3 c3)) B gS p most { r with QA:=A3,qn:=n3,qc:=c3 } l m q3 ∧ SkS w (w3.setCell ⟨gS,6,none⟩ (.slice A3 n3 c3)) gS r { r with QA:=A3,qn:=n3,qc:=c3 }:=by
  obtain ⟨hb,hH1,hH2⟩:=h.grew h.opn.ty (by decide) hg 6 (.slice A3 n3 c3)
  have hR:=h.rest _ hH1
  have hne : ∀ k,(Value.slice A3 n3 c3).ownBlock = some k → k ≠ gS:=fun k hk e => by
    rcases hg.2 with h3 | h3
    · have h4:=h.opn.ty k (by rw [← h3];exact hk)
      rw [e,h.blk.ty] at h4
      exact absurd h4 (by decide)
    · have h4:=h3 k hk
      have h5:=h.blk.lt
      omega
  refine ⟨⟨hb,h.low,hR.list (by decide),ho.far (lQ w3 gS 6 _) fun k hk e => hne k hk (Option.some.inj e),hR.key (by decide),hR.map (by decide),fun q hq => ⟨hR.confs (by decide) (by decide) q _ (hq3 q hq).1,(hq3 q hq).2⟩⟩,⟨hH2.less fun k hk => ⟨hk.1,fun e => hk.2 (.inl e),fun e => hk.2 (.inr (.inr (.inr (.inl e))))⟩,fun k hk => ?_⟩⟩
  rcases hk with h1 | h1 | h1 | h1 | h1
  · exact .inl (.inl h1)
  · exact .inl (.inr (.inl h1))
  · exact .inl (.inr (.inr (.inl h1)))
  · rcases hg.2 with h2 | h2
    · exact .inl (.inr (.inr (.inr (.inl (by rw [← h2];exact h1)))))
    · exact .inr (h2 k h1)
  · exact .inl (.inr (.inr (.inr (.inr h1))))
theorem SkP.mapped {D3 : DataW Unit} {m3 : List (List Nat)} (h : SkP w B gS p most r l m qs) (hg : w.grownBy w' (some r.gM)) (hD : w'.ownsMap Try.prog 9 (plainElem Try.prog 4) r.gM m3.length D3) (hM : MapIs D3 m3) : SkP w' B gS p most r l m3 qs ∧ SkS w w' gS r r:=by
  obtain ⟨hB,D,hD0,_⟩:=h.map
  have hmT:=vG hD0
  have hR:=h.rest none (Held.of_grown hg fun k hk => ⟨hk.1,fun e => hk.2.1 (by rw [Option.some.inj e];exact hmT)⟩)
  exact ⟨⟨h.blk.grown hg (fun e => by have h1:=h.blk.ty;rw [Option.some.inj e,hmT] at h1;cases h1),h.low,hR.list (by simp),hR.opn (by simp),hR.key (by simp),⟨hB,D3,hD,hM⟩,fun q hq => ⟨hR.confs (by simp) (by simp) q _ (h.confs q hq).1,(h.confs q hq).2⟩⟩,
    Held.of_grown hg fun k hk => ⟨hk.1,fun e => hk.2 (.inr (.inl (Option.some.inj e)))⟩,fun _ hk => .inl hk⟩
theorem SkP.less (h : SkP w B gS p most r l m qs) : SkP (w.setCell ⟨gS,9,none⟩ (.bool true)) B gS p most { r with left:=true } l m qs ∧ SkS w (w.setCell ⟨gS,9,none⟩ (.bool true)) gS r { r with left:=true }:=by
  have hR:=h.rest (some 61) (Held.of_grown (lQ w gS 9 (.bool true)) fun k hk => ⟨hk.1,fun e => hk.2.2 (Option.some.inj e)⟩)
  exact ⟨⟨h.blk.set 9 (.bool true),h.low,hR.list (by decide),hR.opn (by decide),hR.key (by decide),hR.map (by decide),fun q hq => ⟨hR.confs (by decide) (by decide) q _ (h.confs q hq).1,(h.confs q hq).2⟩⟩,SkS.set 9 _ fun _ hk => .inl hk⟩
end
theorem Y8 : (Try.prog.info? 4).map (·.zero) = some (some (.bool false)):=by kernel_rfl
theorem zero_bool (W : World) : (zeroValue 4).run Try.prog W = .ok (.bool false) W:=by
  have h:=Y8
  cases hq : Try.prog.info? 4 with
  | none => rw [hq] at h;cases h
  | some i =>
    have hz : i.zero = some (.bool false):=by simpa [hq] using h
    simp [zeroValue,typeInfo,hq,hz]
theorem plain_bool {P : Program} {e : TypeId} (he : P.underlying e = some .bool) {v : Value} {z : DataW Unit × List MemPlace} {b : Bool} (h : plainElem P e v = some z) (hb : z.1 = .lit (.bool b)) : v = .bool b:=by
  unfold plainElem at h
  rw [he] at h
  cases v <;> simp at h
  rw [← h] at hb
  simp at hb
  rw [hb]
theorem seen_look {w : World} {gM n : Nat} {D : DataW Unit} {m : List (List Nat)} (hD : w.ownsMap Try.prog 9 (plainElem Try.prog 4) gM n D) (hM : MapIs D m) {ks : List Nat} (hk : ∀ b ∈ ks,b < 256) (hl : ks.length ≤ 1000) (b : Bool) (hb : decide (ks ∈ m) = b) :
    ∀ W : World,W.heap = w.heap → (Instr.lookup 57 (.map (some gM)) (.string (strOf ks)) false).run Try.prog W = .ok (.bool b) W:=by
  intro W hW
  have hD2 : W.ownsMap Try.prog 9 (plainElem Try.prog 4) gM n D:=by
    obtain ⟨es,clock,h1,h2⟩:=hD
    exact ⟨es,clock,by rw [hW];exact h1,h2⟩
  have hkey : keyOf Try.prog 9 (.string (strOf ks)) = some (keyLit ks):=by
    rw [WideMaps.keyOf_string_mk Try.underlying9 (by rw [LS];unfold maxLen;omega)]
    simp [strOf,keyLit]
  obtain ⟨v,ps,hrun,hv⟩:=hD2.lookup (Maps.string_keyed Try.underlying9) Try.underlying57 (zero_bool W) (plainElem_bool Try.underlying4 false) hkey
  rw [hM.2 ks hk,hb] at hv
  rw [hrun,plain_bool Try.underlying4 hv rfl]
theorem bit_one {m : Nat} (h : 1 ≤ m) : Nat.testBit 1 m = false:=by
  rw [show (1 : Nat) = 2 ^ 0 from rfl,Nat.testBit_two_pow]
  exact decide_eq_false (by omega)
def tailOk0 (l : List Oper) (n : Nat) : Bool:=(List.range l.length).all fun i => decide (i < n) || ((masks l).getD i 0 ||| 1) == 2 ^ i - 1
section
variable {P : Program} {Q : Exit → Act → World → Prop} {a0 : Act} {w : World} {R : List Fact} {D : List (List (Nat × Nat))} {every : List (Nat × Nat)} {l : List Oper} {n : Nat}
theorem forced0 (hback : ∀ i o,l[i]? = some o → ∀ e ∈ o.after,Region.binds .any e = true → e.on < i) (ht : tailOk0 l n = true) :
    ∀ (fuel m : Nat) (listed : Array Bool) (a : Act) (W : World),1 ≤ m → n ≤ m → l.length ≤ m + fuel → listed.size = l.length → (∀ j,j < m → listed.getD j false = true) → (∀ j,m ≤ j → j < l.length → listed.getD j true = false) →
      wpList P l.toArray Q (l.drop m) a W → wpAny P .any l.toArray Q fuel listed a W:=by
  intro fuel
  induction fuel with
  | zero =>
    intro m listed a W hm1 hn hm hs h1 h2 h
    rw [List.drop_of_length_le (by omega)] at h
    refine ⟨?_,h⟩
    cases hr : Region.ready .any l.toArray listed with
    | nil => rfl
    | cons x xs =>
      have hx : x ∈ Region.ready .any l.toArray listed:=by rw [hr];exact List.mem_cons_self
      obtain ⟨hl,o,hi,_⟩:=mem_ready.1 hx
      have hlt : x < l.length:=by
        have:=(Array.getElem?_eq_some_iff.1 hi).1
        simpa using this
      have h3:=h1 x (by omega)
      have hxl : x < listed.size:=by omega
      simp [hxl] at hl h3
      rw [hl] at h3;cases h3
  | succ fuel ih =>
    intro m listed a W hm1 hn hm hs h1 h2 h
    rcases Nat.lt_or_ge m l.length with hml | hml
    rotate_left
    · rw [List.drop_of_length_le hml] at h
      refine ⟨fun _ => h,fun i hi => ?_⟩
      exfalso
      obtain ⟨hl,o,hio,_⟩:=mem_ready.1 hi
      have hlt : i < l.length:=by
        have:=(Array.getElem?_eq_some_iff.1 hio).1
        simpa using this
      have h3:=h1 i (by omega)
      have hxl : i < listed.size:=by omega
      simp [hxl] at hl h3
      rw [hl] at h3;cases h3
    have hmo : l[m]? = some l[m]:=List.getElem?_eq_getElem hml
    have hmr : m ∈ Region.ready .any l.toArray listed:=mem_ready.2 ⟨h2 m (Nat.le_refl _) hml,l[m],by simp,fun e he hb => h1 _ (hback m _ hmo e he hb)⟩
    refine ⟨fun hr => (by rw [hr] at hmr;cases hmr),fun i hi => ?_⟩
    obtain ⟨hil,o,hio,hall⟩:=mem_ready.1 hi
    have hio' : l[i]? = some o:=by simpa using hio
    have hilt:=(List.getElem?_eq_some_iff.1 hio').1
    have him : m ≤ i:=by
      rcases Nat.lt_or_ge i m with hlt | hge
      · have h3:=h1 i hlt
        have hxl : i < listed.size:=by omega
        simp [hxl] at hil h3
        rw [hil] at h3;cases h3
      · exact hge
    have hshut : ∀ j oj,l[j]? = some oj → listed.getD j false = true → ∀ e ∈ oj.after,Region.binds .any e = true → listed.getD e.on false = true:=by
      intro j oj hj hlj e he hb
      have hjl:=(List.getElem?_eq_some_iff.1 hj).1
      have hjm : j < m:=by
        rcases Nat.lt_or_ge j m with hlt | hge
        · exact hlt
        · have h3:=h2 j hge hjl
          have hxl : j < listed.size:=by omega
          simp [hxl] at h3 hlj
          rw [h3] at hlj;cases hlj
      exact h1 _ (Nat.lt_trans (hback j oj hj e he hb) hjm)
    have hie : i = m:=by
      rcases Nat.lt_or_ge m i with hlt | hge
      · exfalso
        have ht1:=List.all_eq_true.1 ht i (List.mem_range.2 hilt)
        have ht2 : (masks l).getD i 0 ||| 1 = 2 ^ i - 1:=by
          simp only [Bool.or_eq_true,decide_eq_true_eq,beq_iff_eq] at ht1
          rcases ht1 with h | h
          · omega
          · exact h
        have h3:=lV hback hshut i o hio' hall m (by
          have hb : ((masks l).getD i 0 ||| 1).testBit m = true:=by rw [ht2,Nat.testBit_two_pow_sub_one];simpa using hlt
          rw [Nat.testBit_or,bit_one hm1,Bool.or_false] at hb;exact hb)
        have h4:=h2 m (Nat.le_refl _) hml
        have hxl : m < listed.size:=by omega
        simp [hxl] at h3 h4
        rw [h4] at h3;cases h3
      · omega
    subst hie
    have hoo : o = l[i]:=by rw [hmo] at hio';cases hio';rfl
    subst hoo
    rw [List.drop_eq_getElem_cons hml] at h
    have hK : ∀ a' W',wpList P l.toArray Q (l.drop (i + 1)) a' W' → wpAny P .any l.toArray Q fuel (listed.setIfInBounds i true) a' W':=fun a' W' h' =>
      ih (i + 1) _ a' W' (by omega) (by omega) (by omega) (by simpa using hs) (fun j hj => by
        by_cases hji : j = i
        · subst hji
          have : j < listed.size:=by omega
          simp [this]
        · exact getD_set_true (h1 j (by omega))) (fun j hj hjl => by rw [getD_set_ne true (by omega)];exact h2 j (by omega) hjl) h'
    unfold wpOp
    rw [hio]
    simp only
    unfold wpList at h
    split
    · rename_i hw
      rw [if_pos hw] at h
      exact h.imp (Oper.wp_mono hK) id
    · rename_i hw
      rw [if_neg hw] at h
      exact hK _ _ h
theorem XP {E : List (Nat × Nat)} (hok : ∀ i o,l.toArray[i]? = some o → OpOk l.toArray D E a0.tmps.size i o) (hev : ∀ p ∈ every,p.1 < n ∧ ∃ oj,l[p.1]? = some oj ∧ oj.dst = some p.2) (ht : tailOk0 l n = true) (hn : n ≤ l.length) (hn1 : 1 ≤ n)
    (hob : ∀ i o,i < n → l.toArray[i]? = some o → ∀ W,Below w.heap.size w W → given R W (fun a1 => wpList P l.toArray (PartPost a0.defers W o (factAt R i)) [o] a1 W) (D.getD i []) a0)
    (hmem : ∀ i o d,i < n → l[i]? = some o → o.dst = some d → (i,d) ∈ every)
    (hend : ∀ W,Below w.heap.size w W → given R W (fun a => wpList P l.toArray Q (l.drop n) a W) every a0) :
    ∀ (fuel : Nat) (listed : Array Bool) (a : Act) (W : World),PInv l.toArray R a0 w listed a W → listed.getD 0 false = true → (∀ j,n ≤ j → j < l.length → listed.getD j true = false) → (listed.toList.take n).count false + (l.length - n) ≤ fuel → wpAny P .any l.toArray Q fuel listed a W:=by
  have hback : ∀ i o,l[i]? = some o → ∀ e ∈ o.after,Region.binds .any e = true → e.on < i:=fun i o hi => (hok i o (by simpa using hi)).back
  have switch : ∀ (fuel : Nat) (listed : Array Bool) (a : Act) (W : World),PInv l.toArray R a0 w listed a W → (∀ j,n ≤ j → j < l.length → listed.getD j true = false) → (∀ j,j < n → listed.getD j false = true) → l.length - n ≤ fuel → wpAny P .any l.toArray Q fuel listed a W:=by
    intro fuel listed a W h h2 h1 hf
    have hs : listed.size = l.length:=by have:=h.size;simpa using this
    refine forced0 hback ht fuel n listed a W hn1 (Nat.le_refl _) (by omega) hs h1 h2 ?_
    have h3:=xR (a:=a) every a0 (hend W h.ext) fun p hp => by
      obtain ⟨hpn,oj,hj,hd⟩:=hev p hp
      exact h.got p.1 oj p.2 (by simpa using hj) hd (h1 p.1 hpn)
    have e1 : fill a every a0 = a:=by
      have e2 : (fill a every a0).tmps = a.tmps:=by
        apply Array.ext_getElem?
        intro t
        rw [xF]
        by_cases hc : t ∈ every.map (·.2) ∧ t < a0.tmps.size
        · rw [if_pos hc,y7 a t (by rw [h.tsz];exact hc.2)]
        · rw [if_neg hc]
          by_cases hts : t < a0.tmps.size
          · refine (h.old t fun j oj hj hd => ?_).symm
            have hj' : l[j]? = some oj:=by simpa using hj
            rcases Nat.lt_or_ge j n with hjn | hjn
            · exact absurd ⟨List.mem_map.2 ⟨(j,t),hmem j oj t hjn hj' hd,rfl⟩,hts⟩ hc
            · have hjl:=(List.getElem?_eq_some_iff.1 hj').1
              have h4:=h2 j hjn hjl
              have hxl : j < listed.size:=by omega
              simp [hxl] at h4 ⊢;exact h4
          · rw [Array.getElem?_eq_none (by omega),Array.getElem?_eq_none (by rw [h.tsz];omega)]
      have e3:=(qR a every a0).trans h.defs.symm
      cases hf : fill a every a0
      cases a
      rw [hf] at e2 e3
      simp only at e2 e3
      rw [e2,e3]
    rw [e1] at h3
    exact h3
  intro fuel
  induction fuel with
  | zero =>
    intro listed a W h h00 h2 hc
    refine switch 0 listed a W h h2 (fun j hj => ?_) (by omega)
    have hs : listed.size = l.length:=by have:=h.size;simpa using this
    have hn0 : false ∉ listed.toList.take n:=List.count_eq_zero.1 (by omega)
    have hjl : j < listed.size:=by omega
    cases hb : listed[j]
    · refine absurd ?_ hn0
      have : (listed.toList.take n)[j]? = some false:=by rw [List.getElem?_take,if_pos hj];simp [hjl,hb]
      exact List.mem_of_getElem? this
    · simp [hjl,hb]
  | succ fuel ih =>
    intro listed a W h h00 h2 hc
    have hs : listed.size = l.length:=by have:=h.size;simpa using this
    by_cases hall : ∀ j,j < n → listed.getD j false = true
    · exact switch _ listed a W h h2 hall (by omega)
    · refine ⟨fun hr => ?_,fun i hi => ?_⟩
      · exact absurd (fun j hj => xW hok h.size hr j (by simp;omega)) hall
      · obtain ⟨hl,o,hio,hw⟩:=mem_ready.1 hi
        have hio' : l[i]? = some o:=by simpa using hio
        have hil:=(List.getElem?_eq_some_iff.1 hio').1
        have hin : i < n:=by
          rcases Nat.lt_or_ge i n with hlt | hge
          · exact hlt
          · exfalso
            refine hall fun j hj => ?_
            have ht1:=List.all_eq_true.1 ht i (List.mem_range.2 hil)
            have ht2 : (masks l).getD i 0 ||| 1 = 2 ^ i - 1:=by
              simp only [Bool.or_eq_true,decide_eq_true_eq,beq_iff_eq] at ht1
              rcases ht1 with h | h
              · omega
              · exact h
            rcases Nat.eq_zero_or_pos j with h0 | h0
            · rw [h0];exact h00
            exact lV hback (fun j oj hj => h.shut j oj (by simpa using hj)) i o hio' hw j (by
              have hb : ((masks l).getD i 0 ||| 1).testBit j = true:=by rw [ht2,Nat.testBit_two_pow_sub_one];simpa using (by omega : j < i)
              rw [Nat.testBit_or,bit_one h0,Bool.or_false] at hb;exact hb)
        refine JW hio (hok i o hio) (hob i o hin hio) h hi fun a' W' h' => ih _ _ _ h' (getD_set_true h00) (fun j hj hjl => by rw [getD_set_ne true (by omega)];exact h2 j hj hjl) ?_
        have hixl : i < listed.size:=by omega
        have:=qX (listed.toList.take n) i (by
          rw [List.getElem?_take,if_pos hin]
          simp [hixl] at hl ⊢;exact hl)
        rw [Array.toList_setIfInBounds,List.take_set]
        omega
theorem XY {ops : Array Oper} {md : Region.Mode} : ∀ (fuel : Nat) (listed : Array Bool) (a : Act) (w : World),wpAny P md ops Q fuel listed a w → wpAnyH P md ops Q (fun _ => True) fuel listed a w
  | 0,_,_,_,h => h
  | fuel + 1,_,_,_,h => ⟨h.1,fun i hi => wpOp_mono (fun a' w' h' => ⟨trivial,XY fuel _ a' w' h'⟩) (h.2 i hi)⟩
theorem qM {id : Nat} (n : Nat) (R : List Fact) (D : List (List (Nat × Nat))) (every : List (Nat × Nat)) (o0 : Oper) (c0 : Value) (hm : P.follows .mixedOrders = true) (hok : partsOk l.toArray D (every ++ ((List.range l.length).filterMap fun i => if n ≤ i then ((l[i]?).bind (·.dst)).map fun d => (i,d) else none)) a0.tmps.size = true)
    (ht : tailOk0 l n = true) (hn : decide (1 ≤ n ∧ n ≤ l.length) = true) (hev : every.all (fun p => decide (p.1 < n)) = true) (ho0 : l[0]? = some o0) (hsel : Region.noSelect l.toArray = true) (hfree : Region.free .any l.toArray (Array.replicate l.length false) 0 = true)
    (hrd : (Region.ready .any l.toArray (Array.replicate l.length false)).contains 0 = true) (hw0 : Region.wanted o0 (yielded l.toArray a0.tmps) = true) (hy0 : ∀ W,(execOp a0.eval o0).run P W = .ok (.value c0) W) (hR0 : factAt R 0 = .is c0)
    (hob : obs P l.toArray R D w a0 0 (l.take n)) (hend : ∀ W,Below w.heap.size w W → given R W (fun a => wpList P l.toArray (NoPanic Q) (l.drop n) a W) every a0) : (Code.region id l.toArray true).wp P Q a0 w:=by
  unfold partsOk at hok
  simp only [Bool.and_eq_true] at hok
  generalize hE : every ++ ((List.range l.length).filterMap fun i => if n ≤ i then ((l[i]?).bind (·.dst)).map fun d => (i,d) else none) = E at hok
  have hn' : 1 ≤ n ∧ n ≤ l.length:=by simpa using hn
  have ok : ∀ i o,l.toArray[i]? = some o → OpOk l.toArray D E a0.tmps.size i o:=fun i o hi => OpOk.of (by
    have:=List.all_eq_true.1 hok.1 i (List.mem_range.2 (Array.getElem?_eq_some_iff.1 hi).1)
    rw [hi] at this
    exact this)
  have hmem : ∀ i o d,i < n → l[i]? = some o → o.dst = some d → (i,d) ∈ every:=fun i o d hin hio hd => by
    have h1:=((ok i o (by simpa using hio)).dst d hd).2.1
    rw [← hE,List.mem_append] at h1
    rcases h1 with h1 | h1
    · exact h1
    · exfalso
      obtain ⟨k,hk,hkk⟩:=List.mem_filterMap.1 h1
      split at hkk
      · obtain ⟨d',_,hdd⟩:=Option.map_eq_some_iff.1 hkk
        cases hdd;omega
      · cases hkk
  have hev' : ∀ p ∈ every,p.1 < n ∧ ∃ oj,l[p.1]? = some oj ∧ oj.dst = some p.2:=fun p hp => by
    have h1:=List.all_eq_true.1 hok.2 p (by rw [← hE];exact List.mem_append_left _ hp)
    obtain ⟨oj,h6,h7⟩:=Option.bind_eq_some_iff.1 (beq_iff_eq.1 h1)
    have h2:=List.all_eq_true.1 hev p hp
    exact ⟨by simpa using h2,oj,by simpa using h6,h7⟩
  have hb0 : Below w.heap.size w { w with drawn:=w.drawn + 1 }:=⟨rfl,rfl,rfl,Nat.le_refl _,fun _ _ => rfl⟩
  have hI0 : PInv l.toArray R a0 w (Array.replicate l.length false) a0 { w with drawn:=w.drawn + 1 }:=⟨by simp,hb0,rfl,rfl,fun j oj d hj _ hl => by
    exfalso
    have hlt : j < l.length:=by have:=(Array.getElem?_eq_some_iff.1 hj).1;simpa using this
    simp [hlt] at hl,fun _ _ => rfl,fun j oj hj hl => by
    exfalso
    have hlt : j < l.length:=by have:=(Array.getElem?_eq_some_iff.1 hj).1;simpa using this
    simp [hlt] at hl⟩
  have ho0' : l.toArray[0]? = some o0:=by simpa using ho0
  have hmr : 0 ∈ Region.ready .any l.toArray (Array.replicate l.length false):=by simpa using hrd
  have hI1:=hI0.step (v:=c0) ho0' (ok 0 o0 ho0') hmr (Below.refl _ _) (fun d _ => by rw [hR0];exact rfl)
  refine wp_region_noPanic (wp_region_held (S:=fun _ => True) hm ?_)
  have hsz : l.toArray.size = (l.length - 1) + 1:=by simp;omega
  rw [hsz,show Array.replicate (l.length - 1 + 1) false = Array.replicate l.length false by congr 1;omega]
  refine wpAnyH_take ho0' hsel hfree hrd (fun _ _ _ h => h.elim) (.inl ⟨hw0,fun W _ => hy0 W⟩) trivial (XY _ _ _ _ ?_)
  refine XP (every:=every) (D:=D) (R:=R) (n:=n) ok hev' ht hn'.2 hn'.1 (fun i o hin hio W hW => ?_) hmem hend _ _ _ _ hI1 ?_ (fun j hj hjl => ?_) ?_
  · have h1:=QR (l.take n) 0 hob i o (by rw [List.getElem?_take,if_pos hin];simpa using hio) W hW
    rw [Nat.zero_add] at h1
    exact h1
  · simp;omega
  · rw [getD_set_ne true (by omega)]
    simp [hjl]
  · have h1n:=hn'.1;have hnl:=hn'.2
    have hc:=qX ((Array.replicate l.length false).toList.take n) 0 (by rw [List.getElem?_take,if_pos (by omega),Array.toList_replicate,List.getElem?_replicate,if_pos (by omega)])
    rw [Array.toList_setIfInBounds,List.take_set]
    have : ((Array.replicate l.length false).toList.take n).count false ≤ n:=by
      refine Nat.le_trans (List.count_le_length) ?_
      rw [List.length_take];omega
    omega
end
end Go.Proofs.Ytnaomfmmkhgbhaa
