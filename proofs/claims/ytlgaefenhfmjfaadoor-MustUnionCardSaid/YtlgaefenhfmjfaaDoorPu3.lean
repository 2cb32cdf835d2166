/- Tail, Still, ProgP0, ProgP1. -/
import Derived.Test.YtlgaefenhfmjfaaDoorPu2
import Derived.StillTailTactics
import Derived.Test.YtlgaefenhfmjfaaDoorPu1
import Derived.Test.YtlgaefenhfmjfaaDoorProgRef2
import Derived.BigQuiet
import Derived.Sort.AtCall
namespace Go.Proofs.YtlgaefenhfmjfaaDoor
open Go.RowKit
def maskOf (acc : List Nat) (o : Oper) : Nat:=(waits o).foldl (fun m j => m ||| (2 ^ j ||| acc.getD j 0)) 0
def masks (l : List Oper) : List Nat:=l.foldl (fun acc o => acc ++ [maskOf acc o]) []
theorem u6 (l : List Oper) (o : Oper) : masks (l ++ [o]) = masks l ++ [maskOf (masks l) o]:=by simp [masks]
theorem xC (l : List Oper) : (masks l).length = l.length:=by
  have h : ∀ (l : List Oper) (acc : List Nat),(l.foldl (fun acc o => acc ++ [maskOf acc o]) acc).length = acc.length + l.length:=by
    intro l
    induction l with
    | nil => intro acc;rfl
    | cons o r ih => intro acc;rw [List.foldl_cons,ih];simp;omega
  have:=h l []
  simpa [masks] using this
theorem yB (l : List Oper) (i : Nat) (o : Oper) (h : l[i]? = some o) : (masks l).getD i 0 = maskOf (masks (l.take i)) o:=by
  have hi:=(List.getElem?_eq_some_iff.1 h).1
  have e : l = l.take i ++ [o] ++ l.drop (i + 1):=by
    have h1 : l.take (i + 1) = l.take i ++ [o]:=by rw [List.take_add_one,h];rfl
    rw [← h1,List.take_append_drop]
  have hpre : ∀ (r : List Oper) (a : List Oper),(masks (a ++ r)).take a.length = masks a:=by
    intro r a
    have hx : ∀ (r : List Oper) (acc : List Nat),∃ t,r.foldl (fun acc o => acc ++ [maskOf acc o]) acc = acc ++ t:=by
      intro r
      induction r with
      | nil => intro acc;exact ⟨[],by simp⟩
      | cons x r ih =>
        intro acc
        obtain ⟨t,ht⟩:=ih (acc ++ [maskOf acc x])
        exact ⟨[maskOf acc x] ++ t,by rw [List.foldl_cons,ht,List.append_assoc]⟩
    obtain ⟨t,ht⟩:=hx r (masks a)
    have h3 : masks (a ++ r) = masks a ++ t:=by unfold masks at ht ⊢;rw [List.foldl_append];exact ht
    rw [h3,List.take_left' (xC a)]
  have hl : (l.take i).length = i:=by rw [List.length_take];omega
  have h2:=hpre (l.drop (i + 1)) (l.take i ++ [o])
  rw [← e,List.length_append,hl,u6] at h2
  have h3 : (masks l)[i]? = ((masks l).take (i + 1))[i]?:=by rw [List.getElem?_take,if_pos (by omega)]
  rw [List.getD_eq_getElem?_getD,h3]
  show (((masks l).take (i + [o].length))[i]?).getD 0 = _
  rw [h2,List.getElem?_append_right (by rw [xC,hl];exact Nat.le_refl _),xC,hl,Nat.sub_self]
  rfl
theorem uH (f : Nat → Nat) (j : Nat) : ∀ (l : List Nat) (m : Nat),(l.foldl (fun m k => m ||| f k) m).testBit j = true → m.testBit j = true ∨ ∃ k ∈ l,(f k).testBit j = true
  | [],m,h => .inl h
  | k :: l,m,h => by
    rcases uH f j l _ h with h | ⟨k',hk,h⟩
    · rw [Nat.testBit_or,Bool.or_eq_true] at h
      rcases h with h | h
      · exact .inl h
      · exact .inr ⟨k,List.mem_cons_self,h⟩
    · exact .inr ⟨k',List.mem_cons_of_mem _ hk,h⟩
theorem lD {l : List Oper} {listed : Array Bool} (hback : ∀ i o,l[i]? = some o → ∀ e ∈ o.after,Region.binds .any e = true → e.on < i)
    (hshut : ∀ j oj,l[j]? = some oj → listed.getD j false = true → ∀ e ∈ oj.after,Region.binds .any e = true → listed.getD e.on false = true) :
    ∀ i o,l[i]? = some o → (∀ e ∈ o.after,Region.binds .any e = true → listed.getD e.on false = true) → ∀ j,((masks l).getD i 0).testBit j = true → listed.getD j false = true:=by
  intro i
  induction i using Nat.strongRecOn with
  | _ i ih =>
    intro o ho hw j hj
    rw [yB l i o ho] at hj
    rcases uH _ j _ _ hj with h | ⟨k,hk,h⟩
    · simp at h
    · obtain ⟨e,he,hb,hon⟩:=qD.1 hk
      have hkl : listed.getD k false = true:=by rw [← hon];exact hw e he hb
      have hki : k < i:=by rw [← hon];exact hback i o ho e he hb
      rw [Nat.testBit_or,Bool.or_eq_true] at h
      rcases h with h | h
      · rw [Nat.testBit_two_pow] at h
        have : k = j:=by simpa using h
        rw [← this];exact hkl
      · have hil:=(List.getElem?_eq_some_iff.1 ho).1
        have hk2 : l[k]? = some (l[k]'(by omega)):=List.getElem?_eq_getElem (by omega)
        have hkt : (l.take i)[k]? = some (l[k]'(by omega)):=by rw [List.getElem?_take,if_pos hki];exact hk2
        have h' : ((masks l).getD k 0).testBit j = true:=by
          rw [yB l k _ hk2]
          rw [yB (l.take i) k _ hkt,List.take_take,Nat.min_eq_left (by omega)] at h
          exact h
        exact ih k hki _ hk2 (hshut k _ hk2 hkl) j h'
def tailOk (l : List Oper) (n : Nat) : Bool:=(List.range l.length).all fun i => decide (i < n) || (masks l).getD i 0 == 2 ^ i - 1
section
variable {P : Program} {Q : Exit → Act → World → Prop} {a0 : Act} {w : World} {R : List Fact} {D : List (List (Nat × Nat))} {every : List (Nat × Nat)} {l : List Oper} {n : Nat}
theorem forced (hback : ∀ i o,l[i]? = some o → ∀ e ∈ o.after,Region.binds .any e = true → e.on < i) (ht : tailOk l n = true) :
    ∀ (fuel m : Nat) (listed : Array Bool) (a : Act) (W : World),n ≤ m → l.length ≤ m + fuel → listed.size = l.length → (∀ j,j < m → listed.getD j false = true) → (∀ j,m ≤ j → j < l.length → listed.getD j true = false) →
      wpList P l.toArray Q (l.drop m) a W → wpAny P .any l.toArray Q fuel listed a W:=by
  intro fuel
  induction fuel with
  | zero =>
    intro m listed a W hn hm hs h1 h2 h
    rw [List.drop_of_length_le (by omega)] at h
    refine ⟨?_,h⟩
    cases hr : Region.ready .any l.toArray listed with
    | nil => rfl
    | cons x xs =>
      have hx : x ∈ Region.ready .any l.toArray listed:=by rw [hr];exact List.mem_cons_self
      obtain ⟨hl,o,hi,_⟩:=mem_ready.1 hx
      have hlt : x < l.length:=by
        have:=(Array.getElem?_eq_some_iff.1 hi).1
        simpa using this
      have h3:=h1 x (by omega)
      have hxl : x < listed.size:=by omega
      simp [hxl] at hl h3
      rw [hl] at h3;cases h3
  | succ fuel ih =>
    intro m listed a W hn hm hs h1 h2 h
    rcases Nat.lt_or_ge m l.length with hml | hml
    rotate_left
    · rw [List.drop_of_length_le hml] at h
      refine ⟨fun _ => h,fun i hi => ?_⟩
      exfalso
      obtain ⟨hl,o,hio,_⟩:=mem_ready.1 hi
      have hlt : i < l.length:=by
        have:=(Array.getElem?_eq_some_iff.1 hio).1
        simpa using this
      have h3:=h1 i (by omega)
      have hxl : i < listed.size:=by omega
      simp [hxl] at hl h3
      rw [hl] at h3;cases h3
    have hmo : l[m]? = some l[m]:=List.getElem?_eq_getElem hml
    have hmr : m ∈ Region.ready .any l.toArray listed:=mem_ready.2 ⟨h2 m (Nat.le_refl _) hml,l[m],by simp,fun e he hb => h1 _ (hback m _ hmo e he hb)⟩
    refine ⟨fun hr => (by rw [hr] at hmr;cases hmr),fun i hi => ?_⟩
    obtain ⟨hil,o,hio,hall⟩:=mem_ready.1 hi
    have hio' : l[i]? = some o:=by simpa using hio
    have hilt:=(List.getElem?_eq_some_iff.1 hio').1
    have him : m ≤ i:=by
      rcases Nat.lt_or_ge i m with hlt | hge
      · have h3:=h1 i hlt
        have hxl : i < listed.size:=by omega
        simp [hxl] at hil h3
        rw [hil] at h3;cases h3
      · exact hge
    have hshut : ∀ j oj,l[j]? = some oj → listed.getD j false = true → ∀ e ∈ oj.after,Region.binds .any e = true → listed.getD e.on false = true:=by
      intro j oj hj hlj e he hb
      have hjl:=(List.getElem?_eq_some_iff.1 hj).1
      have hjm : j < m:=by
        rcases Nat.lt_or_ge j m with hlt | hge
        · exact hlt
        · have h3:=h2 j hge hjl
          have hxl : j < listed.size:=by omega
          simp [hxl] at h3 hlj
          rw [h3] at hlj;cases hlj
      exact h1 _ (Nat.lt_trans (hback j oj hj e he hb) hjm)
    have hie : i = m:=by
      rcases Nat.lt_or_ge m i with hlt | hge
      · exfalso
        have ht1:=List.all_eq_true.1 ht i (List.mem_range.2 hilt)
        have ht2 : (masks l).getD i 0 = 2 ^ i - 1:=by
          simp only [Bool.or_eq_true,decide_eq_true_eq,beq_iff_eq] at ht1
          rcases ht1 with h | h
          · omega
          · exact h
        have h3:=lD hback hshut i o hio' hall m (by rw [ht2,Nat.testBit_two_pow_sub_one];simpa using hlt)
        have h4:=h2 m (Nat.le_refl _) hml
        have hxl : m < listed.size:=by omega
        simp [hxl] at h3 h4
        rw [h4] at h3;cases h3
      · omega
    subst hie
    have hoo : o = l[i]:=by rw [hmo] at hio';cases hio';rfl
    subst hoo
    rw [List.drop_eq_getElem_cons hml] at h
    have hK : ∀ a' W',wpList P l.toArray Q (l.drop (i + 1)) a' W' → wpAny P .any l.toArray Q fuel (listed.setIfInBounds i true) a' W':=fun a' W' h' =>
      ih (i + 1) _ a' W' (by omega) (by omega) (by simpa using hs) (fun j hj => by
        by_cases hji : j = i
        · subst hji
          have : j < listed.size:=by omega
          simp [this]
        · exact getD_set_true (h1 j (by omega))) (fun j hj hjl => by rw [getD_set_ne true (by omega)];exact h2 j (by omega) hjl) h'
    unfold wpOp
    rw [hio]
    simp only
    unfold wpList at h
    split
    · rename_i hw
      rw [if_pos hw] at h
      exact h.imp (Oper.wp_mono hK) id
    · rename_i hw
      rw [if_neg hw] at h
      exact hK _ _ h
theorem vZ {E : List (Nat × Nat)} (hok : ∀ i o,l.toArray[i]? = some o → OpOk l.toArray D E a0.tmps.size i o) (hev : ∀ p ∈ every,p.1 < n ∧ ∃ oj,l[p.1]? = some oj ∧ oj.dst = some p.2) (ht : tailOk l n = true) (hn : n ≤ l.length)
    (hob : ∀ i o,i < n → l.toArray[i]? = some o → ∀ W,Below w.heap.size w W → given R W (fun a1 => wpList P l.toArray (PartPost a0.defers W o (factAt R i)) [o] a1 W) (D.getD i []) a0)
    (hmem : ∀ i o d,i < n → l[i]? = some o → o.dst = some d → (i,d) ∈ every)
    (hend : ∀ W,Below w.heap.size w W → given R W (fun a => wpList P l.toArray Q (l.drop n) a W) every a0) :
    ∀ (fuel : Nat) (listed : Array Bool) (a : Act) (W : World),PInv l.toArray R a0 w listed a W → (∀ j,n ≤ j → j < l.length → listed.getD j true = false) → (listed.toList.take n).count false + (l.length - n) ≤ fuel → wpAny P .any l.toArray Q fuel listed a W:=by
  have hback : ∀ i o,l[i]? = some o → ∀ e ∈ o.after,Region.binds .any e = true → e.on < i:=fun i o hi => (hok i o (by simpa using hi)).back
  have switch : ∀ (fuel : Nat) (listed : Array Bool) (a : Act) (W : World),PInv l.toArray R a0 w listed a W → (∀ j,n ≤ j → j < l.length → listed.getD j true = false) → (∀ j,j < n → listed.getD j false = true) → l.length - n ≤ fuel → wpAny P .any l.toArray Q fuel listed a W:=by
    intro fuel listed a W h h2 h1 hf
    have hs : listed.size = l.length:=by have:=h.size;simpa using this
    refine forced hback ht fuel n listed a W (Nat.le_refl _) (by omega) hs h1 h2 ?_
    have h3:=lT (a:=a) every a0 (hend W h.ext) fun p hp => by
      obtain ⟨hpn,oj,hj,hd⟩:=hev p hp
      exact h.got p.1 oj p.2 (by simpa using hj) hd (h1 p.1 hpn)
    have e1 : fill a every a0 = a:=by
      have e2 : (fill a every a0).tmps = a.tmps:=by
        apply Array.ext_getElem?
        intro t
        rw [qF]
        by_cases hc : t ∈ every.map (·.2) ∧ t < a0.tmps.size
        · rw [if_pos hc,qU a t (by rw [h.tsz];exact hc.2)]
        · rw [if_neg hc]
          by_cases hts : t < a0.tmps.size
          · refine (h.old t fun j oj hj hd => ?_).symm
            have hj' : l[j]? = some oj:=by simpa using hj
            rcases Nat.lt_or_ge j n with hjn | hjn
            · exact absurd ⟨List.mem_map.2 ⟨(j,t),hmem j oj t hjn hj' hd,rfl⟩,hts⟩ hc
            · have hjl:=(List.getElem?_eq_some_iff.1 hj').1
              have h4:=h2 j hjn hjl
              have hxl : j < listed.size:=by omega
              simp [hxl] at h4 ⊢;exact h4
          · rw [Array.getElem?_eq_none (by omega),Array.getElem?_eq_none (by rw [h.tsz];omega)]
      have e3:=(lO a every a0).trans h.defs.symm
      cases hf : fill a every a0
      cases a
      rw [hf] at e2 e3
      simp only at e2 e3
      rw [e2,e3]
    rw [e1] at h3
    exact h3
  intro fuel
  induction fuel with
  | zero =>
    intro listed a W h h2 hc
    refine switch 0 listed a W h h2 (fun j hj => ?_) (by omega)
    have hs : listed.size = l.length:=by have:=h.size;simpa using this
    have hn0 : false ∉ listed.toList.take n:=List.count_eq_zero.1 (by omega)
    have hjl : j < listed.size:=by omega
    cases hb : listed[j]
    · refine absurd ?_ hn0
      have : (listed.toList.take n)[j]? = some false:=by rw [List.getElem?_take,if_pos hj];simp [hjl,hb]
      exact List.mem_of_getElem? this
    · simp [hjl,hb]
  | succ fuel ih =>
    intro listed a W h h2 hc
    have hs : listed.size = l.length:=by have:=h.size;simpa using this
    by_cases hall : ∀ j,j < n → listed.getD j false = true
    · exact switch _ listed a W h h2 hall (by omega)
    · refine ⟨fun hr => ?_,fun i hi => ?_⟩
      · exact absurd (fun j hj => qK hok h.size hr j (by simp;omega)) hall
      · obtain ⟨hl,o,hio,hw⟩:=mem_ready.1 hi
        have hio' : l[i]? = some o:=by simpa using hio
        have hil:=(List.getElem?_eq_some_iff.1 hio').1
        have hin : i < n:=by
          rcases Nat.lt_or_ge i n with hlt | hge
          · exact hlt
          · exfalso
            refine hall fun j hj => ?_
            have ht1:=List.all_eq_true.1 ht i (List.mem_range.2 hil)
            have ht2 : (masks l).getD i 0 = 2 ^ i - 1:=by
              simp only [Bool.or_eq_true,decide_eq_true_eq,beq_iff_eq] at ht1
              rcases ht1 with h | h
              · omega
              · exact h
            exact lD hback (fun j oj hj => h.shut j oj (by simpa using hj)) i o hio' hw j (by rw [ht2,Nat.testBit_two_pow_sub_one];simpa using (by omega : j < i))
        refine zU hio (hok i o hio) (hob i o hin hio) h hi fun a' W' h' => ih _ _ _ h' (fun j hj hjl => by rw [getD_set_ne true (by omega)];exact h2 j hj hjl) ?_
        have hixl : i < listed.size:=by omega
        have:=qG (listed.toList.take n) i (by
          rw [List.getElem?_take,if_pos hin]
          simp [hixl] at hl ⊢;exact hl)
        rw [Array.toList_setIfInBounds,List.take_set]
        omega
theorem jL {id : Nat} (n : Nat) (R : List Fact) (D : List (List (Nat × Nat))) (every : List (Nat × Nat)) (hm : P.follows .mixedOrders = true) (hok : partsOk l.toArray D (every ++ ((List.range l.length).filterMap fun i => if n ≤ i then ((l[i]?).bind (·.dst)).map fun d => (i,d) else none)) a0.tmps.size = true)
    (ht : tailOk l n = true) (hn : decide (n ≤ l.length) = true) (hev : every.all (fun p => decide (p.1 < n)) = true)
    (hob : obs P l.toArray R D w a0 0 (l.take n)) (hend : ∀ W,Below w.heap.size w W → given R W (fun a => wpList P l.toArray Q (l.drop n) a W) every a0) : (Code.region id l.toArray true).wp P Q a0 w:=by
  unfold partsOk at hok
  simp only [Bool.and_eq_true] at hok
  generalize hE : every ++ ((List.range l.length).filterMap fun i => if n ≤ i then ((l[i]?).bind (·.dst)).map fun d => (i,d) else none) = E at hok
  have hn' : n ≤ l.length:=by simpa using hn
  have ok : ∀ i o,l.toArray[i]? = some o → OpOk l.toArray D E a0.tmps.size i o:=fun i o hi => OpOk.of (by
    have:=List.all_eq_true.1 hok.1 i (List.mem_range.2 (Array.getElem?_eq_some_iff.1 hi).1)
    rw [hi] at this
    exact this)
  have hmem : ∀ i o d,i < n → l[i]? = some o → o.dst = some d → (i,d) ∈ every:=fun i o d hin hio hd => by
    have h1:=((ok i o (by simpa using hio)).dst d hd).2.1
    rw [← hE,List.mem_append] at h1
    rcases h1 with h1 | h1
    · exact h1
    · exfalso
      obtain ⟨k,hk,hkk⟩:=List.mem_filterMap.1 h1
      split at hkk
      · obtain ⟨d',_,hdd⟩:=Option.map_eq_some_iff.1 hkk
        cases hdd;omega
      · cases hkk
  have hev' : ∀ p ∈ every,p.1 < n ∧ ∃ oj,l[p.1]? = some oj ∧ oj.dst = some p.2:=fun p hp => by
    have h1:=List.all_eq_true.1 hok.2 p (by rw [← hE];exact List.mem_append_left _ hp)
    obtain ⟨oj,h6,h7⟩:=Option.bind_eq_some_iff.1 (beq_iff_eq.1 h1)
    have h2:=List.all_eq_true.1 hev p hp
    exact ⟨by simpa using h2,oj,by simpa using h6,h7⟩
  refine wp_region_any hm (vZ (every:=every) (D:=D) (R:=R) (n:=n) ok hev' ht hn' (fun i o hin hio W hW => ?_) hmem hend _ _ a0 _ ⟨by simp,⟨rfl,rfl,rfl,Nat.le_refl _,fun _ _ => rfl⟩,rfl,rfl,fun j oj d hj _ hl => ?_,fun _ _ => rfl,fun j oj hj hl => ?_⟩ (fun j _ hjl => by simp [hjl]) ?_)
  · have h1:=u2 (l.take n) 0 hob i o (by rw [List.getElem?_take,if_pos hin];simpa using hio) W hW
    rw [Nat.zero_add] at h1
    exact h1
  · exfalso
    have hlt : j < l.length:=by have:=(Array.getElem?_eq_some_iff.1 hj).1;simpa using this
    simp [hlt] at hl
  · exfalso
    have hlt : j < l.length:=by have:=(Array.getElem?_eq_some_iff.1 hj).1;simpa using this
    simp [hlt] at hl
  · simp;omega
end
end Go.Proofs.YtlgaefenhfmjfaaDoor
namespace Go.Proofs.YtlgaefenhfmjfaaDoor
section
variable {P : Program} {ops : Array Oper} {w : World} {Q : Act → Prop} {a : Act} {o : Oper} {rest : List Oper}
end
end Go.Proofs.YtlgaefenhfmjfaaDoor
namespace Go.Proofs.YtlgaefenhfmjfaaDoor
open Go.RowKit
def roomQ (g l s f k n : Int) : Int × Int × Int :=
  if k = 0 then (1,n,1)
  else if k = 1 then (g,n,1)
  else if k = 2 then (g,n,1)
  else if k = 3 then (l,n,1)
  else if k = 4 then (l,n,1)
  else if k = 5 then (f,n,s)
  else if k = 6 then (s,n,1)
  else if k = 7 then (f,n,1)
  else if k = 8 then (1,n,n)
  else if k = 9 then (1,1,1)
  else (0,0,0)
theorem uF (g l s f k n : Int) (h : k < 0 ∨ 9 < k) : roomQ g l s f k n = (0,0,0):=by
  unfold roomQ
  rw [if_neg (by omega),if_neg (by omega),if_neg (by omega),if_neg (by omega),if_neg (by omega),if_neg (by omega),if_neg (by omega),if_neg (by omega),if_neg (by omega),if_neg (by omega)]
theorem jJ (q : Nat → Bool) : (List.range 3).all q = (q 0 && (q 1 && (q 2 && true))):=rfl
theorem JS (g l s f : Int) (x : Nd) (nodes : Int) {a b c : Int} (h : roomQ g l s f x.kind (max nodes 1) = (a,b,c)) :
    Q.may g l s f x nodes = (decide (0 ≤ x.arg ∧ x.arg < a) && (decide (0 ≤ x.next ∧ x.next < b) && decide (0 ≤ x.alt ∧ x.alt < c))):=by
  obtain ⟨k,ar,nx,al⟩:=x
  simp only at h ⊢
  by_cases hk : k < 0 ∨ 9 < k
  · rw [uF g l s f k _ hk] at h
    cases h
    unfold Q.may
    have e : Q.row k = []:=by unfold Q.row;rw [if_pos hk]
    simp only [e]
    have e2 : decide (0 ≤ ar ∧ ar < 0) = false:=decide_eq_false (by omega)
    rw [e2]
    rfl
  · rcases kinds k (by omega) (by omega) with h0 | h0 | h0 | h0 | h0 | h0 | h0 | h0 | h0 | h0 <;> subst h0
    · cases h
      unfold Q.may
      rw [show Q.row 0 = [45,110,45] from rfl,jJ]
      simp [Q.fields,Q.size]
    · cases h
      unfold Q.may
      rw [show Q.row 1 = [103,110,45] from rfl,jJ]
      simp [Q.fields,Q.size]
    · cases h
      unfold Q.may
      rw [show Q.row 2 = [103,110,45] from rfl,jJ]
      simp [Q.fields,Q.size]
    · cases h
      unfold Q.may
      rw [show Q.row 3 = [108,110,45] from rfl,jJ]
      simp [Q.fields,Q.size]
    · cases h
      unfold Q.may
      rw [show Q.row 4 = [108,110,45] from rfl,jJ]
      simp [Q.fields,Q.size]
    · cases h
      unfold Q.may
      rw [show Q.row 5 = [102,110,115] from rfl,jJ]
      simp [Q.fields,Q.size]
    · cases h
      unfold Q.may
      rw [show Q.row 6 = [115,110,45] from rfl,jJ]
      simp [Q.fields,Q.size]
    · cases h
      unfold Q.may
      rw [show Q.row 7 = [102,110,45] from rfl,jJ]
      simp [Q.fields,Q.size]
    · cases h
      unfold Q.may
      rw [show Q.row 8 = [45,110,110] from rfl,jJ]
      simp [Q.fields,Q.size]
    · cases h
      unfold Q.may
      rw [show Q.row 9 = [45,45,45] from rfl,jJ]
      simp [Q.fields,Q.size]
set_option maxRecDepth 100000 in
set_option maxHeartbeats 800000 in
theorem jN (n c : Int) (r : Bool) (hr : decide (0 ≤ n ∧ n < c) = r) (w : World) :
    Calls Tryd.prog 81 #[.int .i64 n,.int .i64 c] w fun e w' => e = .returned (.bool r) ∧ Below w.heap.size w w':=by
  have HR:=kp hr
  clear hr
  by_cases h1 : 0 ≤ n
  · have z1 : (n ≥ 0) = True:=by simpa using h1
    by_cases h2 : n < c
    · have HE : Kept (true = r):=kp <| by rw [← HR.out,decide_eq_true ⟨h1,h2⟩]
      go_enter Tryd.func81,Tryd.ntmps81
      go_wp2
      go_ret
      exact ⟨jC HE.out,Below.refl _ _⟩
    · have HE : Kept (decide (n < c) = r):=kp <| by rw [← HR.out,decide_eq_false h2,decide_eq_false (by omega)]
      clear h2
      go_enter Tryd.func81,Tryd.ntmps81
      go_wp2
      go_ret
      exact ⟨jC HE.out,Below.refl _ _⟩
  · have HE : Kept (false = r):=kp <| by rw [← HR.out,decide_eq_false (by omega)]
    have h3 : n < 0:=by omega
    clear h1
    go_enter Tryd.func81,Tryd.ntmps81
    go_wp2
    go_ret
    exact ⟨jC HE.out,Below.refl _ _⟩
theorem jS {a b c a' b' c' : Int} (h : (a,b,c) = (a',b',c')) : Ending.returned (.tuple #[.int .i64 a,.int .i64 b,.int .i64 c]) = Ending.returned (.tuple #[.int .i64 a',.int .i64 b',.int .i64 c']):=by
  injection h with h1 h2
  injection h2 with h2 h3
  rw [h1,h2,h3]
set_option maxRecDepth 100000 in
set_option maxHeartbeats 3200000 in
theorem x9 (p : Pg) (k n : Int) (a b c : Int) (hr : roomQ p.g p.l p.s p.len k n = (a,b,c)) (w : World) :
    Calls Tryd.prog 80 #[pgA p,.int .i64 k,.int .i64 n] w fun e w' => e = .returned (.tuple #[.int .i64 a,.int .i64 b,.int .i64 c]) ∧ Below w.heap.size w w':=by
  rw [jT]
  by_cases hk : k < 0 ∨ 9 < k
  · have HE:=kp ((uF p.g p.l p.s p.len k n hk).symm.trans hr)
    have z0 : (k == 0) = false:=by simp;omega
    have z1 : (k == 1) = false:=by simp;omega
    have z2 : (k == 2) = false:=by simp;omega
    have z3 : (k == 3) = false:=by simp;omega
    have z4 : (k == 4) = false:=by simp;omega
    have z5 : (k == 5) = false:=by simp;omega
    have z6 : (k == 6) = false:=by simp;omega
    have z7 : (k == 7) = false:=by simp;omega
    have z8 : (k == 8) = false:=by simp;omega
    have z9 : (k == 9) = false:=by simp;omega
    clear hk hr
    go_enter Tryd.func80,Tryd.ntmps80
    go_wp2_with ((with_reducible refine j4 rfl 24 (.tmp 0) rfl (pgC p) rfl ?_);intro g1 w1 hg1 hk1 hw1;obtain ⟨hc0,hc1,hc2,hc3⟩:=j8 hk1;have HW1:=kp hw1;clear hg1 hk1 hw1)
    go_ret3
    exact ⟨jS HE.out,HW1.out⟩
  · rcases kinds k (by omega) (by omega) with h0 | h0 | h0 | h0 | h0 | h0 | h0 | h0 | h0 | h0 <;> subst h0 <;> clear hk
    · have HE : Kept (((1 : Int),n,(1 : Int)) = (a,b,c)):=kp hr
      clear hr
      go_enter Tryd.func80,Tryd.ntmps80
      go_wp2_with ((with_reducible refine j4 rfl 24 (.tmp 0) rfl (pgC p) rfl ?_);intro g1 w1 hg1 hk1 hw1;obtain ⟨hc0,hc1,hc2,hc3⟩:=j8 hk1;have HW1:=kp hw1;clear hg1 hk1 hw1)
      go_ret3
      exact ⟨jS HE.out,HW1.out⟩
    · have HE : Kept ((p.g,n,(1 : Int)) = (a,b,c)):=kp hr
      clear hr
      go_enter Tryd.func80,Tryd.ntmps80
      go_wp2_with ((with_reducible refine j4 rfl 24 (.tmp 0) rfl (pgC p) rfl ?_);intro g1 w1 hg1 hk1 hw1;obtain ⟨hc0,hc1,hc2,hc3⟩:=j8 hk1;have HW1:=kp hw1;clear hg1 hk1 hw1)
      go_ret3
      exact ⟨jS HE.out,HW1.out⟩
    · have HE : Kept ((p.g,n,(1 : Int)) = (a,b,c)):=kp hr
      clear hr
      go_enter Tryd.func80,Tryd.ntmps80
      go_wp2_with ((with_reducible refine j4 rfl 24 (.tmp 0) rfl (pgC p) rfl ?_);intro g1 w1 hg1 hk1 hw1;obtain ⟨hc0,hc1,hc2,hc3⟩:=j8 hk1;have HW1:=kp hw1;clear hg1 hk1 hw1)
      go_ret3
      exact ⟨jS HE.out,HW1.out⟩
    · have HE : Kept ((p.l,n,(1 : Int)) = (a,b,c)):=kp hr
      clear hr
      go_enter Tryd.func80,Tryd.ntmps80
      go_wp2_with ((with_reducible refine j4 rfl 24 (.tmp 0) rfl (pgC p) rfl ?_);intro g1 w1 hg1 hk1 hw1;obtain ⟨hc0,hc1,hc2,hc3⟩:=j8 hk1;have HW1:=kp hw1;clear hg1 hk1 hw1)
      go_ret3
      exact ⟨jS HE.out,HW1.out⟩
    · have HE : Kept ((p.l,n,(1 : Int)) = (a,b,c)):=kp hr
      clear hr
      go_enter Tryd.func80,Tryd.ntmps80
      go_wp2_with ((with_reducible refine j4 rfl 24 (.tmp 0) rfl (pgC p) rfl ?_);intro g1 w1 hg1 hk1 hw1;obtain ⟨hc0,hc1,hc2,hc3⟩:=j8 hk1;have HW1:=kp hw1;clear hg1 hk1 hw1)
      go_ret3
      exact ⟨jS HE.out,HW1.out⟩
    · have HE : Kept (((p.len : Int),n,p.s) = (a,b,c)):=kp hr
      clear hr
      go_enter Tryd.func80,Tryd.ntmps80
      go_wp2_with ((with_reducible refine j4 rfl 24 (.tmp 0) rfl (pgC p) rfl ?_);intro g1 w1 hg1 hk1 hw1;obtain ⟨hc0,hc1,hc2,hc3⟩:=j8 hk1;have HW1:=kp hw1;clear hg1 hk1 hw1)
      go_quiet (fail)
      go_wp2
      go_ret3
      exact ⟨jS HE.out,below_drewN HW1.out _⟩
    · have HE : Kept ((p.s,n,(1 : Int)) = (a,b,c)):=kp hr
      clear hr
      go_enter Tryd.func80,Tryd.ntmps80
      go_wp2_with ((with_reducible refine j4 rfl 24 (.tmp 0) rfl (pgC p) rfl ?_);intro g1 w1 hg1 hk1 hw1;obtain ⟨hc0,hc1,hc2,hc3⟩:=j8 hk1;have HW1:=kp hw1;clear hg1 hk1 hw1)
      go_ret3
      exact ⟨jS HE.out,HW1.out⟩
    · have HE : Kept (((p.len : Int),n,(1 : Int)) = (a,b,c)):=kp hr
      clear hr
      go_enter Tryd.func80,Tryd.ntmps80
      go_wp2_with ((with_reducible refine j4 rfl 24 (.tmp 0) rfl (pgC p) rfl ?_);intro g1 w1 hg1 hk1 hw1;obtain ⟨hc0,hc1,hc2,hc3⟩:=j8 hk1;have HW1:=kp hw1;clear hg1 hk1 hw1)
      go_ret3
      exact ⟨jS HE.out,HW1.out⟩
    · have HE : Kept (((1 : Int),n,n) = (a,b,c)):=kp hr
      clear hr
      go_enter Tryd.func80,Tryd.ntmps80
      go_wp2_with ((with_reducible refine j4 rfl 24 (.tmp 0) rfl (pgC p) rfl ?_);intro g1 w1 hg1 hk1 hw1;obtain ⟨hc0,hc1,hc2,hc3⟩:=j8 hk1;have HW1:=kp hw1;clear hg1 hk1 hw1)
      go_ret3
      exact ⟨jS HE.out,HW1.out⟩
    · have HE : Kept (((1 : Int),(1 : Int),(1 : Int)) = (a,b,c)):=kp hr
      clear hr
      go_enter Tryd.func80,Tryd.ntmps80
      go_wp2_with ((with_reducible refine j4 rfl 24 (.tmp 0) rfl (pgC p) rfl ?_);intro g1 w1 hg1 hk1 hw1;obtain ⟨hc0,hc1,hc2,hc3⟩:=j8 hk1;have HW1:=kp hw1;clear hg1 hk1 hw1)
      go_ret3
      exact ⟨jS HE.out,HW1.out⟩
set_option maxRecDepth 100000 in
set_option maxHeartbeats 3200000 in
theorem zS (B : Nat) (p : Pg) (x : Nd) (_hx : x.Ok) (nodes : Int) (hn : I64 nodes) (r : Bool) (hr : Q.may p.g p.l p.s p.len x nodes = r) (w : World) (_hp : p.Ok w B) (_hB : B ≤ w.heap.size) :
    Calls Tryd.prog 70 #[pgA p,ndA x,.int .i64 nodes] w fun e w' => e = .returned (.bool r) ∧ Below w.heap.size w w':=by
  obtain ⟨a,b,c,habc⟩ : ∃ a b c,roomQ p.g p.l p.s p.len x.kind (max nodes 1) = (a,b,c):=⟨_,_,_,rfl⟩
  have HRoom:=kp habc
  obtain ⟨r1,h1⟩ : ∃ r1,decide (0 ≤ x.arg ∧ x.arg < a) = r1:=⟨_,rfl⟩
  obtain ⟨r2,h2⟩ : ∃ r2,decide (0 ≤ x.next ∧ x.next < b) = r2:=⟨_,rfl⟩
  obtain ⟨r3,h3⟩ : ∃ r3,decide (0 ≤ x.alt ∧ x.alt < c) = r3:=⟨_,rfl⟩
  have HR : Kept ((r1 && (r2 && r3)) = r):=kp <| by rw [← hr,JS _ _ _ _ _ _ habc,h1,h2,h3]
  have H1:=kp h1;have H2:=kp h2;have H3:=kp h3
  obtain ⟨hn1,hn2⟩:=hn
  clear habc h1 h2 h3 hr
  rw [jT,show ndA x = .agg (ndC x).toArray from rfl]
  cases r1
  case false =>
    go_enter Tryd.func70,Tryd.ntmps70
    go_wp2_with (first
      | ((with_reducible refine j4 rfl 24 (.tmp 0) rfl (pgC p) rfl ?_);intro g1 w1 hg1 hk1 hw1;have HK1:=kp hk1;have HW1:=kp hw1;have hs1:=hw1.size;clear hg1 hk1 hw1)
      | ((with_reducible refine j4 rfl 63 (.tmp 1) rfl (ndC x) rfl ?_);intro g2 w2 hg2 hk2 hw2;have HK2:=kp hk2;obtain ⟨hd0,hd1,hd2,hd3⟩:=jB hk2;have HW2:=kp (HW1.out.trans (hw2.mono hs1));have HKp:=kp (HK1.out.below hw2 HK1.out.lt);have hs2:=HW2.out.size;clear hg2 hk2 hw2)
      | ((with_reducible show Sl 11);go_must (refine j5 rfl 24 (.tmp 3) rfl g1 rfl _ (pgC p) _ HKp.out Tryd.underlying24 rfl jI ?_))
      | (go_at_call 80;go_must (refine (x9 p x.kind _ a b c (by first | exact HRoom.out | (rw [← HRoom.out];congr 1;omega)) _).mono ?_);rintro e9 w9 ⟨rfl,hw9⟩;have HK9:=kp (HK2.out.below hw9 HK2.out.lt);clear hd0 hd1 hd2 hd3;obtain ⟨hd0,hd1,hd2,hd3⟩:=jB HK9.out;have HW9:=kp (HW2.out.trans (hw9.mono hs2));have hs9:=HW9.out.size;clear hw9)
      | (go_at_call_of 81 (Value.int IntKind.i64 x.arg);go_must (refine (jN x.arg a _ H1.out _).mono ?_);rintro e4 w4 ⟨rfl,hw4⟩;have HK4:=kp (HK9.out.below hw4 HK9.out.lt);clear hd0 hd1 hd2 hd3;obtain ⟨hd0,hd1,hd2,hd3⟩:=jB HK4.out;have HW4:=kp (HW9.out.trans (hw4.mono hs9));have hs4:=HW4.out.size;clear hw4)
      | (go_at_call_of 81 (Value.int IntKind.i64 x.next);go_must (refine (jN x.next b _ H2.out _).mono ?_);rintro e5 w5 ⟨rfl,hw5⟩;have HK5:=kp (HK4.out.below hw5 HK4.out.lt);clear hd0 hd1 hd2 hd3;obtain ⟨hd0,hd1,hd2,hd3⟩:=jB HK5.out;have HW5:=kp (HW4.out.trans (hw5.mono hs4));have hs5:=HW5.out.size;clear hw5)
      | (go_at_call_of 81 (Value.int IntKind.i64 x.alt);go_must (refine (jN x.alt c _ H3.out _).mono ?_);rintro e6 w6 ⟨rfl,hw6⟩;have HW6:=kp (HW5.out.trans (hw6.mono hs5));clear hw6))
    all_goals go_ret
    all_goals exact ⟨jC HR.out,by first | exact HW6.out | exact HW5.out | exact HW4.out⟩
  case true =>
    cases r2
    case false =>
      go_enter Tryd.func70,Tryd.ntmps70
      go_wp2_with (first
        | ((with_reducible refine j4 rfl 24 (.tmp 0) rfl (pgC p) rfl ?_);intro g1 w1 hg1 hk1 hw1;have HK1:=kp hk1;have HW1:=kp hw1;have hs1:=hw1.size;clear hg1 hk1 hw1)
        | ((with_reducible refine j4 rfl 63 (.tmp 1) rfl (ndC x) rfl ?_);intro g2 w2 hg2 hk2 hw2;have HK2:=kp hk2;obtain ⟨hd0,hd1,hd2,hd3⟩:=jB hk2;have HW2:=kp (HW1.out.trans (hw2.mono hs1));have HKp:=kp (HK1.out.below hw2 HK1.out.lt);have hs2:=HW2.out.size;clear hg2 hk2 hw2)
        | ((with_reducible show Sl 11);go_must (refine j5 rfl 24 (.tmp 3) rfl g1 rfl _ (pgC p) _ HKp.out Tryd.underlying24 rfl jI ?_))
        | (go_at_call 80;go_must (refine (x9 p x.kind _ a b c (by first | exact HRoom.out | (rw [← HRoom.out];congr 1;omega)) _).mono ?_);rintro e9 w9 ⟨rfl,hw9⟩;have HK9:=kp (HK2.out.below hw9 HK2.out.lt);clear hd0 hd1 hd2 hd3;obtain ⟨hd0,hd1,hd2,hd3⟩:=jB HK9.out;have HW9:=kp (HW2.out.trans (hw9.mono hs2));have hs9:=HW9.out.size;clear hw9)
        | (go_at_call_of 81 (Value.int IntKind.i64 x.arg);go_must (refine (jN x.arg a _ H1.out _).mono ?_);rintro e4 w4 ⟨rfl,hw4⟩;have HK4:=kp (HK9.out.below hw4 HK9.out.lt);clear hd0 hd1 hd2 hd3;obtain ⟨hd0,hd1,hd2,hd3⟩:=jB HK4.out;have HW4:=kp (HW9.out.trans (hw4.mono hs9));have hs4:=HW4.out.size;clear hw4)
        | (go_at_call_of 81 (Value.int IntKind.i64 x.next);go_must (refine (jN x.next b _ H2.out _).mono ?_);rintro e5 w5 ⟨rfl,hw5⟩;have HK5:=kp (HK4.out.below hw5 HK4.out.lt);clear hd0 hd1 hd2 hd3;obtain ⟨hd0,hd1,hd2,hd3⟩:=jB HK5.out;have HW5:=kp (HW4.out.trans (hw5.mono hs4));have hs5:=HW5.out.size;clear hw5)
        | (go_at_call_of 81 (Value.int IntKind.i64 x.alt);go_must (refine (jN x.alt c _ H3.out _).mono ?_);rintro e6 w6 ⟨rfl,hw6⟩;have HW6:=kp (HW5.out.trans (hw6.mono hs5));clear hw6))
      all_goals go_ret
      all_goals exact ⟨jC HR.out,by first | exact HW6.out | exact HW5.out | exact HW4.out⟩
    case true =>
      go_enter Tryd.func70,Tryd.ntmps70
      go_wp2_with (first
        | ((with_reducible refine j4 rfl 24 (.tmp 0) rfl (pgC p) rfl ?_);intro g1 w1 hg1 hk1 hw1;have HK1:=kp hk1;have HW1:=kp hw1;have hs1:=hw1.size;clear hg1 hk1 hw1)
        | ((with_reducible refine j4 rfl 63 (.tmp 1) rfl (ndC x) rfl ?_);intro g2 w2 hg2 hk2 hw2;have HK2:=kp hk2;obtain ⟨hd0,hd1,hd2,hd3⟩:=jB hk2;have HW2:=kp (HW1.out.trans (hw2.mono hs1));have HKp:=kp (HK1.out.below hw2 HK1.out.lt);have hs2:=HW2.out.size;clear hg2 hk2 hw2)
        | ((with_reducible show Sl 11);go_must (refine j5 rfl 24 (.tmp 3) rfl g1 rfl _ (pgC p) _ HKp.out Tryd.underlying24 rfl jI ?_))
        | (go_at_call 80;go_must (refine (x9 p x.kind _ a b c (by first | exact HRoom.out | (rw [← HRoom.out];congr 1;omega)) _).mono ?_);rintro e9 w9 ⟨rfl,hw9⟩;have HK9:=kp (HK2.out.below hw9 HK2.out.lt);clear hd0 hd1 hd2 hd3;obtain ⟨hd0,hd1,hd2,hd3⟩:=jB HK9.out;have HW9:=kp (HW2.out.trans (hw9.mono hs2));have hs9:=HW9.out.size;clear hw9)
        | (go_at_call_of 81 (Value.int IntKind.i64 x.arg);go_must (refine (jN x.arg a _ H1.out _).mono ?_);rintro e4 w4 ⟨rfl,hw4⟩;have HK4:=kp (HK9.out.below hw4 HK9.out.lt);clear hd0 hd1 hd2 hd3;obtain ⟨hd0,hd1,hd2,hd3⟩:=jB HK4.out;have HW4:=kp (HW9.out.trans (hw4.mono hs9));have hs4:=HW4.out.size;clear hw4)
        | (go_at_call_of 81 (Value.int IntKind.i64 x.next);go_must (refine (jN x.next b _ H2.out _).mono ?_);rintro e5 w5 ⟨rfl,hw5⟩;have HK5:=kp (HK4.out.below hw5 HK4.out.lt);clear hd0 hd1 hd2 hd3;obtain ⟨hd0,hd1,hd2,hd3⟩:=jB HK5.out;have HW5:=kp (HW4.out.trans (hw5.mono hs4));have hs5:=HW5.out.size;clear hw5)
        | (go_at_call_of 81 (Value.int IntKind.i64 x.alt);go_must (refine (jN x.alt c _ H3.out _).mono ?_);rintro e6 w6 ⟨rfl,hw6⟩;have HW6:=kp (HW5.out.trans (hw6.mono hs5));clear hw6))
      all_goals go_ret
      all_goals exact ⟨jC HR.out,by first | exact HW6.out | exact HW5.out | exact HW4.out⟩
set_option maxRecDepth 100000 in
set_option maxHeartbeats 800000 in
theorem x8 (x : Nd) (_hx : x.Ok) (w : World) :
    Calls Tryd.prog 67 #[ndA x] w fun e w' => ∃ v,e = .returned v ∧ Own w' w.heap.size 3 v ((Q.succ x).map intV) ∧ Below w.heap.size w w':=by
  obtain ⟨l,hl⟩ : ∃ l,Q.succ x = l:=⟨_,rfl⟩
  have HL:=kp hl
  rw [hl]
  clear hl
  rw [show ndA x = .agg (ndC x).toArray from rfl]
  by_cases h8 : x.kind = 8
  · have HE : Kept ([x.next,x.alt] = l):=kp <| by rw [← HL.out];unfold Q.succ;rw [if_neg (by omega),if_pos h8]
    have hz8 : (x.kind == 8) = true:=by simpa using h8
    clear h8
    go_enter Tryd.func67,Tryd.ntmps67
    go_wp2_with ((with_reducible refine j4 rfl 63 (.tmp 0) rfl (ndC x) rfl ?_);intro g1 w1 hg1 hk1 hw1;obtain ⟨hc0,hc1,hc2,hc3⟩:=jB hk1;have HW1:=kp hw1;have hs1:=hw1.size;clear hg1 hk1 hw1)
    go_ret
    exact ⟨_,rfl,by rw [← HE.out];exact Own.new w1 w.heap.size 3 [intV x.next,intV x.alt] hs1 (by simp [maxLen]),HW1.out.alloc hs1 _⟩
  · have hz8 : (x.kind == 8) = false:=by simpa using h8
    by_cases h9 : x.kind = 9
    · have HE : Kept ([] = l):=kp <| by rw [← HL.out];unfold Q.succ;rw [if_pos h9]
      have hz9 : (x.kind == 9) = true:=by simpa using h9
      clear h8 h9
      go_enter Tryd.func67,Tryd.ntmps67
      go_wp2_with ((with_reducible refine j4 rfl 63 (.tmp 0) rfl (ndC x) rfl ?_);intro g1 w1 hg1 hk1 hw1;obtain ⟨hc0,hc1,hc2,hc3⟩:=jB hk1;have HW1:=kp hw1;clear hg1 hk1 hw1)
      go_ret
      exact ⟨_,rfl,by rw [← HE.out];exact Own.nil _ _ _,HW1.out⟩
    · have hz9 : (x.kind == 9) = false:=by simpa using h9
      have HE : Kept ([x.next] = l):=kp <| by rw [← HL.out];unfold Q.succ;rw [if_neg h9,if_neg h8]
      clear h8 h9
      go_enter Tryd.func67,Tryd.ntmps67
      go_wp2_with ((with_reducible refine j4 rfl 63 (.tmp 0) rfl (ndC x) rfl ?_);intro g1 w1 hg1 hk1 hw1;obtain ⟨hc0,hc1,hc2,hc3⟩:=jB hk1;have HW1:=kp hw1;have hs1:=hw1.size;clear hg1 hk1 hw1)
      go_ret
      exact ⟨_,rfl,by rw [← HE.out];exact Own.new w1 w.heap.size 3 [intV x.next] hs1 (by simp [maxLen]),HW1.out.alloc hs1 _⟩
end Go.Proofs.YtlgaefenhfmjfaaDoor
