/- SeekOne, SeekMath2, SeekKey, SeekP0, TailRow. -/
import Derived.Test.YtnaomfmmkhgbhaaPk10
import Derived.Test.YtnaomfmmkhgbhaaPk9
import Derived.Test.YtnaomfmmkhgbhaaPk5
namespace Go.Proofs.Ytnaomfmmkhgbhaa
open Go.RowKit
theorem x7 (n : Int) (h : (Lit.int .u16 n).wf = true) : 0 ≤ n ∧ n < 65536:=by
  simp [Lit.wf,IntKind.min,IntKind.max,IntKind.bits,IntKind.signed] at h;omega
def ndsO : List Nd:=[⟨9,0,0,0⟩]
def pgLone (f : Nat) : Pg:=⟨0,0,0,some ⟨f + 1,0,none⟩,1,1,[⟨some ⟨f,0,none⟩,1,1,ndsO⟩]⟩
theorem one_fn {f : Nat} {x : Fn} (h : x ∈ (pgLone f).fns) : x = ⟨some ⟨f,0,none⟩,1,1,ndsO⟩:=by simpa [pgLone] using h
theorem nds_o {x : Nd} (h : x ∈ ndsO) : x = ⟨9,0,0,0⟩:=by simpa [ndsO] using h
theorem pgLone_ok (w : World) (f : Nat) (h1 : Blk w f 55 [.int .i64 9,.int .i64 0,.int .i64 0,.int .i64 0])
    (h3 : Blk w (f + 1) 56 [.slice (some ⟨f,0,none⟩) 1 1]) : (pgLone f).Ok w w.heap.size:=by
  refine ⟨by unfold I64;simp [pgLone],by unfold I64;simp [pgLone],by unfold I64;simp [pgLone],?_,?_,Nat.le_refl _,by simp [pgLone,maxLen],fun h => by cases h⟩
  · exact Blk.row (f:=fnV) (l:=(pgLone f).fns) h3 rfl (Nat.le_refl _)
  · intro x hx
    obtain rfl:=one_fn hx
    refine ⟨⟨JP (l:=ndsO) h1 (by simp [maxLen,ndsO]),fun y hy => ?_⟩,Nat.le_refl _,by simp [maxLen],fun h => by cases h⟩
    obtain rfl:=nds_o hy
    exact yK 9 0 0 0 (by omega)
theorem check_one (f : Nat) : Q.check (pgLone f) = (0,0,0):=by
  refine Q.check_fine (by constructor <;> simp [pgLone]) ?_ ?_
  · rintro j hj ⟨fn,hfn,hb⟩
    refine hb ?_
    obtain rfl:=one_fn (List.mem_of_getElem? hfn)
    rw [Q.fault_none _ _ (by simp [ndsO]) (by simp [ndsO]) ?_]
    rintro i hi ⟨nd,hnd,hm⟩
    have hm' : Q.may 0 0 0 1 nd 1 = false:=hm
    obtain rfl:=nds_o (List.mem_of_getElem? hnd)
    exact absurd hm' (by decide)
  · rintro j hj ⟨i,fn,nd,hfn,hnd,h7,_⟩
    obtain rfl:=one_fn (List.mem_of_getElem? hfn)
    obtain rfl:=nds_o (List.mem_of_getElem? hnd)
    cases h7
def cfOne : M.Cf:=⟨[⟨[],List.replicate 8 0⟩],List.replicate 16 0⟩
theorem uO {p : Pg} {c : M.Cf} (h : c.ths.length = 1) : ¬ K.Racy p c:=by
  rintro ⟨x,y,z,hf⟩
  rcases hf with ⟨_,a,b,_,_,_,hab,hb,_⟩ | ⟨h0,_⟩
  · omega
  · omega
theorem st_one0 (f : Nat) : K.st (pgLone f) 9 0 = ⟨[⟨M.start,0,0,false,[]⟩],false⟩:=by rfl
theorem st_one1 (f : Nat) : K.st (pgLone f) 9 1 = ⟨[⟨M.start,0,0,false,[]⟩,⟨cfOne,0,0,false,[(0,false)]⟩],false⟩:=by rfl
theorem st_one2 (f : Nat) : K.st (pgLone f) 9 2 = ⟨[⟨M.start,0,0,false,[]⟩,⟨cfOne,0,0,false,[(0,false)]⟩],false⟩:=by rfl
theorem out_pgLone (f : Nat) : K.Out (pgLone f) 9 [] 2:=by
  refine ⟨2,fun j hj => ?_,.inr ⟨by rw [st_one2];exact Nat.le_refl _,rfl,by rw [st_one2];rfl⟩⟩
  rcases (show j = 0 ∨ j = 1 by omega) with rfl | rfl
  · exact ⟨by rw [st_one0];exact Nat.one_pos,uO (by unfold K.en;rw [st_one0];rfl)⟩
  · exact ⟨by rw [st_one1];exact Nat.lt_succ_self 1,uO (by unfold K.en;rw [st_one1];rfl)⟩
theorem st_two0 (f : Nat) : K.st (pgTwo f) 9 0 = ⟨[⟨M.start,0,0,false,[]⟩],false⟩:=by rfl
theorem QE (f : Nat) : K.st (pgTwo f) 9 1 = ⟨[⟨M.start,0,0,false,[]⟩,⟨cfTwo,0,0,false,[(0,false)]⟩],false⟩:=by rfl
theorem out_pgTwo (f : Nat) : K.Out (pgTwo f) 9 [(0,false)] 1:=by
  refine ⟨1,fun j hj => ?_,.inl ⟨by rw [QE];exact Nat.lt_succ_self 1,?_,by unfold K.en;rw [QE];rfl,rfl⟩⟩
  · obtain rfl : j = 0:=by omega
    exact ⟨by rw [st_two0];exact Nat.one_pos,uO (by unfold K.en;rw [st_two0];rfl)⟩
  · refine ⟨0,1,0,?_⟩
    unfold K.en
    rw [QE]
    exact two_then f
end Go.Proofs.Ytnaomfmmkhgbhaa
namespace Go.Proofs.Ytnaomfmmkhgbhaa.K
def to (p : Pg) (z : List (Int × Bool)) (k : Nat) : M.Cf:=(z.take k).foldl (fun c x => M.step p c x.1 x.2) M.start
theorem to_succ (p : Pg) (z : List (Int × Bool)) (k : Nat) (x : Int × Bool) (hx : z[k]? = some x) : to p z (k + 1) = M.step p (to p z k) x.1 x.2:=by
  unfold to
  rw [List.take_add_one,hx,List.foldl_append];rfl
theorem to_end (p : Pg) (z : List (Int × Bool)) (k : Nat) (h : z.length ≤ k) : to p z (k + 1) = to p z k:=by
  unfold to
  rw [List.take_of_length_le h,List.take_of_length_le (by omega)]
theorem X6 (p : Pg) (a b : List (Int × Bool)) {k : Nat} (hk : k ≤ a.length) : to p (a ++ b) k = to p a k:=by
  unfold to;rw [List.take_append_of_le_length hk]
theorem YB {p : Pg} {most : Int} {s : Sk} (h : Inv p most s) : ∀ (n i : Nat) (e : En),i < n → s.all[i]? = some e →
    to p e.path e.path.length = e.cf ∧ (∀ j,j < e.path.length → ∃ i' e',i' < i ∧ s.all[i']? = some e' ∧ to p e.path j = e'.cf ∧ e'.path.length = j) ∧
      (∀ j x,e.path[j]? = some x → 0 ≤ x.1 ∧ M.enabledN p (to p e.path j) x.1.toNat = true)
  | 0,i,e,hi,_ => absurd hi (by omega)
  | n + 1,i,e,hi,he => by
    rcases h.src i e he with ⟨_,h2,h3,_⟩ | ⟨h1,h2,f,h3,h4,h5,h6⟩
    · rw [h3]
      exact ⟨by rw [h2];rfl,fun j hj => absurd hj (by simp),fun j x hx => by simp at hx⟩
    · obtain ⟨a1,a2,a3⟩:=YB h n e.src f (by omega) h3
      have hlen : e.path.length = f.path.length + 1:=by rw [h6];simp
      have hat : e.path[f.path.length]? = some ((e.who : Int),e.way):=by rw [h6];simp
      have hfr : ∀ j,j ≤ f.path.length → to p e.path j = to p f.path j:=fun j hj => by rw [h6];exact X6 p _ _ hj
      refine ⟨?_,fun j hj => ?_,fun j x hx => ?_⟩
      · rw [hlen,to_succ p _ _ _ hat,hfr _ (Nat.le_refl _),a1,h5]
      · rcases Nat.lt_or_ge j f.path.length with hl | hl
        · obtain ⟨i',e',b1,b2,b3,b4⟩:=a2 j hl
          exact ⟨i',e',by omega,b2,by rw [hfr j (by omega)];exact b3,b4⟩
        · have e1 : j = f.path.length:=by omega
          subst e1
          exact ⟨e.src,f,h2,h3,by rw [hfr _ (Nat.le_refl _)];exact a1,rfl⟩
      · have hj : j < e.path.length:=(List.getElem?_eq_some_iff.1 hx).1
        rcases Nat.lt_or_ge j f.path.length with hl | hl
        · rw [h6,List.getElem?_append_left hl] at hx
          rw [hfr j (by omega)]
          exact a3 j x hx
        · have e1 : j = f.path.length:=by omega
          subst e1
          rw [hat] at hx
          cases hx
          rw [hfr _ (Nat.le_refl _),a1]
          exact ⟨by simp,by simpa using h4⟩
theorem LP {p : Pg} {most : Int} {s : Sk} (h : Inv p most s) : ∀ (n i : Nat) (e : En),i < n → s.all[i]? = some e → ∀ a b,a < b → b ≤ e.path.length → to p e.path a ≠ to p e.path b
  | 0,i,e,hi,_ => absurd hi (by omega)
  | n + 1,i,e,hi,he => by
    intro a b hab hb heq
    obtain ⟨w1,w2,_⟩:=YB h (n + 1) i e hi he
    rcases Nat.lt_or_ge b e.path.length with hl | hl
    · rcases h.src i e he with ⟨_,_,h3,_⟩ | ⟨h1,h2,f,h3,h4,h5,h6⟩
      · rw [h3] at hl;simp at hl
      · have hlen : e.path.length = f.path.length + 1:=by rw [h6];simp
        have hfr : ∀ j,j ≤ f.path.length → to p e.path j = to p f.path j:=fun j hj => by rw [h6];exact X6 p _ _ hj
        rw [hfr a (by omega),hfr b (by omega)] at heq
        exact LP h n e.src f (by omega) h3 a b hab (by omega) heq
    · have e1 : b = e.path.length:=by omega
      subst e1
      obtain ⟨i',e',b1,b2,b3,_⟩:=w2 a hab
      rw [w1,b3] at heq
      have:=h.apart i' i e' e b2 he heq
      omega
/-! ### the nearest first -/
structure Rise (l : List En) (d : Nat) : Prop where
  rise : ∀ (i j : Nat) (e f : En),i ≤ j → l[i]? = some e → l[j]? = some f → e.path.length ≤ f.path.length
  most : ∀ e ∈ l,e.path.length ≤ d + 1
theorem Rise.put {l : List En} {d : Nat} (h : Rise l d) {e : En} (he : e.path.length = d + 1) : Rise (l ++ [e]) d:=by
  refine ⟨fun i j f g hij hi hj => ?_,fun f hf => ?_⟩
  · have hf:=List.mem_of_getElem? hi
    rcases Nat.lt_or_ge j l.length with hl | hl
    · rw [List.getElem?_append_left hl] at hj
      rw [List.getElem?_append_left (by omega)] at hi
      exact h.rise i j f g hij hi hj
    · rw [List.getElem?_append_right hl] at hj
      have hj1:=(List.getElem?_eq_some_iff.1 hj).1
      simp only [List.length_singleton] at hj1
      have e1 : j - l.length = 0:=by omega
      rw [e1] at hj
      have e2 : g = e:=by simpa using hj.symm
      subst e2
      rcases List.mem_append.1 hf with h1 | h1
      · have:=h.most f h1;omega
      · rw [List.mem_singleton.1 h1];exact Nat.le_refl _
  · rcases List.mem_append.1 hf with h1 | h1
    · exact h.most f h1
    · rw [List.mem_singleton.1 h1];omega
theorem XS (p : Pg) (i : Nat) (e : En) (t : Nat) (way : Bool) : (next p i e t way).path.length = e.path.length + 1:=by simp [next]
theorem XG {s : Sk} {most : Int} {d : Nat} (h : Rise s.all d) {e : En} (he : e.path.length = d + 1) : Rise (K.put most s e).all d:=by
  rcases vW most s e with h1 | ⟨h1,_⟩
  · rw [h1];exact h
  · rw [h1];exact h.put he
theorem QG {p : Pg} (most : Int) : ∀ k,k < (st p most k).all.length → (∀ j,j < k → j < (st p most j).all.length) → Rise (st p most k).all (en p most k).path.length ∧ (∀ i (e : En),(st p most k).all[i]? = some e → i ≤ k → e.path.length ≤ (en p most k).path.length)
  | 0,hk,_ => by
    rcases begin_cases most with ⟨h,_⟩ | ⟨h,h1⟩
    · rw [show st p most 0 = begin most from rfl,h] at hk;exact absurd hk (by simp)
    · have key : ∀ (e : En),e ∈ (st p most 0).all → e = ⟨M.start,0,0,false,[]⟩:=fun e he => by
        rw [show st p most 0 = begin most from rfl,h] at he
        exact List.mem_singleton.1 he
      refine ⟨⟨fun i j e f _ hi hj => by rw [key e (List.mem_of_getElem? hi)];exact Nat.zero_le _,fun e he => by rw [key e he];exact Nat.zero_le _⟩,fun i e hi _ => by rw [key e (List.mem_of_getElem? hi)];exact Nat.zero_le _⟩
  | k + 1,hk,hall => by
    have hk0:=hall k (by omega)
    obtain ⟨ih,_⟩:=QG most k hk0 (fun j hj => hall j (by omega))
    have h1 : Rise (st p most (k + 1)).all (en p most k).path.length :=
      yS (fun x => Rise x.all (en p most k).path.length) (fun _ t way _ _ hx => XG hx (XS p k (en p most k) t way)) ih
    have he:=en_at hk
    have h2 : (st p most (k + 1)).all[k]? = some (en p most k):=(st_pre p most (Nat.le_succ k)).get (en_at hk0)
    have h3:=h1.rise k (k + 1) _ _ (by omega) h2 he
    refine ⟨⟨h1.rise,fun e he' => by have:=h1.most e he';omega⟩,fun i e hi hle => h1.rise i (k + 1) e _ hle hi he⟩
/-! ### what is gone through is closed under steps -/
theorem one_puts {p : Pg} {most : Int} {i : Nat} {e : En} {s : Sk} {t : Nat} (h : M.enabledN p e.cf t = true) (way : Bool) :
    has (one p most i e s t).all (M.step p e.cf t way) = true ∨ ((one p most i e s t).left = true ∧ most ≤ ((one p most i e s t).all.length : Int)):=by
  have lft : ∀ s' : Sk,∀ e' : En,(put most s' e').left = true ∧ most ≤ (s'.all.length : Int) → (put most s' e').left = true ∧ most ≤ ((put most s' e').all.length : Int):=fun s' e' h' => ⟨h'.1,by have:=(put_pre most s' e').len;omega⟩
  unfold one
  rw [if_pos h]
  by_cases h8 : (M.node p e.cf t).kind = 8
  · rw [if_pos h8]
    cases way with
    | false =>
      rcases put_in most s (next p i e t false) with h1 | h1
      · exact .inl ((put_pre _ _ _).has h1)
      · have h2:=lft _ _ h1
        exact .inr ⟨vV _ _ _ h2.1,by have:=(put_pre most (put most s (next p i e t false)) (next p i e t true)).len;omega⟩
    | true =>
      rcases put_in most (put most s (next p i e t false)) (next p i e t true) with h1 | h1
      · exact .inl h1
      · exact .inr (lft _ _ h1)
  · rw [if_neg h8]
    have hw : M.step p e.cf t way = M.step p e.cf t false:=by
      cases way with
      | false => rfl
      | true => exact (M.step_way fun hx => h8 hx.2.1).symm
    rw [hw]
    rcases put_in most s (next p i e t false) with h1 | h1
    · exact .inl h1
    · exact .inr (lft _ _ h1)
theorem Q3 {p : Pg} {most : Int} {i : Nat} {e : En} {s : Sk} (t : Int) (way : Bool) (hhas : has s.all e.cf = true) :
    has (goOn p most i e s).all (M.step p e.cf t way) = true ∨ ((goOn p most i e s).left = true ∧ most ≤ ((goOn p most i e s).all.length : Int)):=by
  by_cases h : M.enabled p e.cf t = true
  · obtain ⟨h0,h1⟩:=M.enabled_split h
    obtain ⟨n,rfl⟩ : ∃ n : Nat,t = n:=⟨t.toNat,by omega⟩
    rw [Int.toNat_natCast] at h1
    have hn : n < e.cf.ths.length:=M.lives_lt (M.enabled_lives h1)
    have hp:=X7 p most i e s (n + 1) e.cf.ths.length (by omega)
    rcases one_puts (p:=p) (most:=most) (i:=i) (e:=e) (s:=thrs p most i e s n) h1 way with h2 | h2
    · exact .inl (hp.has h2)
    · right
      have hl : ∀ m,n + 1 ≤ m → (thrs p most i e s m).left = true:=fun m hm => by
        induction m with
        | zero => omega
        | succ m ih =>
          by_cases e1 : n = m
          · subst e1;exact h2.1
          · exact uJ (fun x => x.left = true) (fun _ _ _ _ _ hx => vV _ _ _ hx) _ (ih (by omega))
      exact ⟨hl _ (by omega),by have h3:=hp.len;have h4:=h2.2;unfold goOn;change (most : Int) ≤ _;have h5 : (one p most i e (thrs p most i e s n) n).all.length = (thrs p most i e s (n + 1)).all.length:=rfl;omega⟩
  · rw [M.step_same (by simpa using h)]
    exact .inl ((Y0 p most i e s).has hhas)
theorem out_none {p : Pg} {most : Int} {l : List (Int × Bool)} (h : Out p most l 2) (z : List (Int × Bool)) : ∀ k,¬ Racy p (to p z k):=by
  obtain ⟨k,h1,h2⟩:=h
  rcases h2 with ⟨_,_,_,h2⟩ | ⟨hk,_,h2⟩
  · cases h2
  have hl : (st p most k).left = false:=by
    cases hl : (st p most k).left with
    | false => rfl
    | true => rw [hl] at h2;cases h2
  have key : ∀ n,has (st p most k).all (to p z n) = true:=fun n => by
    induction n with
    | zero =>
      rcases begin_cases most with ⟨h,_⟩ | ⟨h,_⟩
      · have:=LB p most (Nat.zero_le k) (by rw [show st p most 0 = begin most from rfl,h])
        rw [hl] at this;cases this
      · refine (st_pre p most (Nat.zero_le k)).has ?_
        rw [show st p most 0 = begin most from rfl,h]
        exact qQ.2 ⟨_,List.mem_singleton.2 rfl,rfl⟩
    | succ n ih =>
      cases hx : z[n]? with
      | none => rw [to_end p z n (by simpa using hx)];exact ih
      | some x =>
        rw [to_succ p z n x hx]
        obtain ⟨e,he,hc⟩:=qQ.1 ih
        obtain ⟨i,hi⟩:=List.mem_iff_getElem?.1 he
        have hik : i < k:=by have:=(List.getElem?_eq_some_iff.1 hi).1;omega
        have h3:=h1 i hik
        have e1:=Q7 hi h3.1
        rcases Q3 (p:=p) (most:=most) (i:=i) (e:=en p most i) (s:=st p most i) x.1 x.2 (qQ.2 ⟨_,List.mem_of_getElem? (en_at h3.1),rfl⟩) with h4 | h4
        · rw [e1,hc] at h4
          refine (st_pre p most (show i + 1 ≤ k by omega)).has ?_
          rw [st_succ,e1];exact h4
        · have:=LB p most (show i + 1 ≤ k by omega) (by rw [st_succ];exact h4.1)
          rw [hl] at this;cases this
  intro n hr
  obtain ⟨e,he,hc⟩:=qQ.1 (key n)
  obtain ⟨i,hi⟩:=List.mem_iff_getElem?.1 he
  have hik : i < k:=by have:=(List.getElem?_eq_some_iff.1 hi).1;omega
  have h3:=h1 i hik
  rw [← hc,← Q7 hi h3.1] at hr
  exact h3.2 hr
theorem out_short {p : Pg} {most : Int} {l : List (Int × Bool)} (h : Out p most l 1) (z : List (Int × Bool)) : ∀ n,Racy p (to p z n) → l.length ≤ n:=by
  obtain ⟨k,h1,h2⟩:=h
  rcases h2 with ⟨hk,_,hle,_⟩ | ⟨_,_,h2⟩
  rotate_left
  · split at h2 <;> cases h2
  intro n hr
  rcases Nat.lt_or_ge n l.length with hn | hn
  rotate_left
  · exact hn
  exfalso
  have hall : ∀ j,j < k → j < (st p most j).all.length:=fun j hj => (h1 j hj).1
  obtain ⟨hR,hR2⟩:=QG most k hk hall
  have hek:=en_at hk
  have idx : ∀ (i : Nat) (e : En),(st p most k).all[i]? = some e → e.path.length < l.length → i < k:=fun i e hi hlt => by
    rcases Nat.lt_or_ge i k with h | h
    · exact h
    · have:=hR.rise k i _ _ h hek hi
      rw [hle] at hlt
      omega
  have key : ∀ m,m ≤ n → ∃ (i : Nat) (e : En),(st p most k).all[i]? = some e ∧ e.cf = to p z m ∧ e.path.length ≤ m:=fun m => by
    induction m with
    | zero =>
      intro _
      rcases begin_cases most with ⟨h,h3⟩ | ⟨h,_⟩
      · exfalso
        rcases Nat.eq_zero_or_pos k with h4 | h4
        · subst h4
          rw [show st p most 0 = begin most from rfl,h] at hk;exact absurd hk (by simp)
        · have:=hall 0 h4
          rw [show st p most 0 = begin most from rfl,h] at this;exact absurd this (by simp)
      · have h4 : (st p most 0).all[0]? = some ⟨M.start,0,0,false,[]⟩:=by rw [show st p most 0 = begin most from rfl,h];rfl
        exact ⟨0,_,(st_pre p most (Nat.zero_le k)).get h4,rfl,Nat.le_refl _⟩
    | succ m ih =>
      intro hm
      obtain ⟨i,e,hi,hc,hp⟩:=ih (by omega)
      cases hx : z[m]? with
      | none => exact ⟨i,e,hi,by rw [to_end p z m (by simpa using hx)];exact hc,by omega⟩
      | some x =>
        have hik:=idx i e hi (by omega)
        have h3:=h1 i hik
        have e1:=Q7 hi h3.1
        obtain ⟨hRi,_⟩:=QG most i h3.1 (fun j hj => hall j (by omega))
        have hR1 : Rise (st p most (i + 1)).all (en p most i).path.length :=
          yS (fun x => Rise x.all (en p most i).path.length) (fun _ t way _ _ hx => XG hx (XS p i (en p most i) t way)) hRi
        rcases Q3 (p:=p) (most:=most) (i:=i) (e:=en p most i) (s:=st p most i) x.1 x.2 (qQ.2 ⟨_,List.mem_of_getElem? (en_at h3.1),rfl⟩) with h4 | h4
        · rw [← st_succ] at h4
          obtain ⟨f,hf,hfc⟩:=qQ.1 h4
          obtain ⟨i2,hi2⟩:=List.mem_iff_getElem?.1 hf
          refine ⟨i2,f,(st_pre p most (show i + 1 ≤ k by omega)).get hi2,?_,?_⟩
          · rw [hfc,e1,hc,to_succ p z m x hx]
          · have:=hR1.most f hf
            rw [e1] at this;omega
        · exfalso
          rw [← st_succ] at h4
          have hlen : (st p most k).all = (st p most (i + 1)).all:=by
            have hpre:=st_pre p most (show i + 1 ≤ k by omega)
            obtain ⟨c,hcc⟩:=hpre
            have hfull : ∀ b,i + 1 ≤ b → (st p most b).all = (st p most (i + 1)).all:=fun b hb => by
              induction b with
              | zero => omega
              | succ b ihb =>
                by_cases e2 : i + 1 = b + 1
                · rw [← e2]
                · have ih2:=ihb (by omega)
                  refine (yS (fun x => x.all = (st p most (i + 1)).all) (fun s t way _ _ hs => ?_) ih2)
                  rcases vW most s (next p b (en p most b) t way) with h5 | ⟨_,_,h5,_⟩
                  · exact Eq.trans h5 hs
                  · rw [hs] at h5;omega
            exact hfull k (by omega)
          have hmem:=List.mem_of_getElem? hek
          rw [hlen] at hmem
          have:=hR1.most _ hmem
          rw [e1,← hle] at this
          omega
  obtain ⟨i,e,hi,hc,hp⟩:=key n (Nat.le_refl _)
  have hik:=idx i e hi (by omega)
  have h3:=h1 i hik
  rw [← hc,← Q7 hi h3.1] at hr
  exact h3.2 hr
structure Found (p : Pg) (l : List (Int × Bool)) : Prop where
  race : Racy p (to p l l.length)
  none : ∀ j,j < l.length → ¬ Racy p (to p l j)
  may : ∀ j x,l[j]? = some x → 0 ≤ x.1 ∧ M.enabledN p (to p l j) x.1.toNat = true
  apart : ∀ a b,a < b → b ≤ l.length → to p l a ≠ to p l b
theorem out_found {p : Pg} (hf : Fine p) (hl : p.fns.length = p.len) {most : Int} {l : List (Int × Bool)} (h : Out p most l 1) : Found p l ∧ ((l.length : Int) < most):=by
  have hsh:=out_short h
  obtain ⟨k,h1,h2⟩:=h
  rcases h2 with ⟨hk,hr,hle,_⟩ | ⟨_,_,h2⟩
  rotate_left
  · split at h2 <;> cases h2
  have hI:=inv_st hf hl most k
  have hek:=en_at hk
  obtain ⟨w1,w2,w3⟩:=YB hI (k + 1) k _ (by omega) hek
  have w4:=LP hI (k + 1) k _ (by omega) hek
  have hlt : (l.length : Int) < most:=by
    have h3:=st_len hf hl most k
    have h5 : ∀ (n i : Nat) (e : En),i < n → (st p most k).all[i]? = some e → e.path.length ≤ i:=by
      intro n
      induction n with
      | zero => intro i e hi;omega
      | succ n ih =>
        intro i e hi he
        rcases hI.src i e he with ⟨_,_,h3,_⟩ | ⟨a1,a2,f,a3,_,_,a6⟩
        · rw [h3];exact Nat.zero_le _
        · have:=ih e.src f (by omega) a3
          rw [a6];simp;omega
    have:=h5 (k + 1) k _ (by omega) hek
    rw [hle];omega
  subst hle
  exact ⟨⟨by rw [w1];exact hr,fun j hj hr2 => by have:=hsh _ j hr2;omega,w3,w4⟩,hlt⟩
/-! ### a search among more -/
def Twin (a : Int) (s s' : Sk) : Prop:=s = s' ∨ (s.left = true ∧ Pre s.all s'.all ∧ a ≤ (s.all.length : Int))
theorem Twin.put {a b : Int} (hab : a ≤ b) {s s' : Sk} (h : Twin a s s') (e : En) : Twin a (K.put a s e) (K.put b s' e):=by
  rcases h with rfl | ⟨h1,h2,h3⟩
  · by_cases hh : has s.all e.cf = true
    · left;unfold K.put;rw [if_pos hh,if_pos hh]
    · by_cases hl : a ≤ (s.all.length : Int)
      · right
        have e1 : K.put a s e = ⟨s.all,true⟩:=by unfold K.put;rw [if_neg hh,if_pos hl]
        rw [e1]
        exact ⟨rfl,put_pre _ _ _,hl⟩
      · left;unfold K.put;rw [if_neg hh,if_neg hh,if_neg hl,if_neg (by omega)]
  · right
    have e1 : (K.put a s e).all = s.all:=by
      rcases vW a s e with h | ⟨_,_,h,_⟩
      · exact h
      · omega
    rw [e1]
    exact ⟨vV _ _ _ h1,h2.trans (put_pre _ _ _),h3⟩
theorem Twin.one {p : Pg} {a b : Int} (hab : a ≤ b) {i : Nat} {e : En} {s s' : Sk} (h : Twin a s s') (t : Nat) : Twin a (K.one p a i e s t) (K.one p b i e s' t):=by
  unfold K.one
  split
  · split
    · exact (h.put hab _).put hab _
    · exact h.put hab _
  · exact h
theorem Twin.thrs {p : Pg} {a b : Int} (hab : a ≤ b) {i : Nat} {e : En} {s s' : Sk} (h : Twin a s s') : ∀ n,Twin a (K.thrs p a i e s n) (K.thrs p b i e s' n)
  | 0 => h
  | n + 1 => (h.thrs hab n).one hab n
theorem twin_st {p : Pg} {a b : Int} (hab : a ≤ b) : ∀ k,(∀ j,j < k → j < (st p a j).all.length) → Twin a (st p a k) (st p b k)
  | 0,_ => by
    show Twin a (K.put a ⟨[],false⟩ _) (K.put b ⟨[],false⟩ _)
    exact Twin.put hab (.inl rfl) _
  | k + 1,h => by
    have ih:=twin_st (p:=p) hab k (fun j hj => h j (by omega))
    have hk:=h k (by omega)
    have e1 : en p b k = en p a k:=by
      have h1:=en_at hk
      have h2 : (st p b k).all[k]? = some (en p a k):=by
        rcases ih with e | ⟨_,h2,_⟩
        · rw [← e];exact h1
        · exact h2.get h1
      have hk2 : k < (st p b k).all.length:=(List.getElem?_eq_some_iff.1 h2).1
      exact Q7 h2 hk2
    rw [st_succ,st_succ,e1]
    exact Twin.thrs hab ih _
theorem out_more {p : Pg} {a b : Int} (hab : a ≤ b) {l : List (Int × Bool)} {is : Nat} (h : Out p a l is) (his : is ≠ 0) : Out p b l is:=by
  obtain ⟨k,h1,h2⟩:=h
  have tw : ∀ j,j ≤ k → Twin a (st p a j) (st p b j):=fun j hj => twin_st hab j (fun i hi => (h1 i (by omega)).1)
  have same : ∀ j,j ≤ k → j < (st p a j).all.length → j < (st p b j).all.length ∧ en p b j = en p a j:=fun j hj hlt => by
    have e1:=en_at hlt
    have e2 : (st p b j).all[j]? = some (en p a j):=by
      rcases tw j hj with e | ⟨_,h2,_⟩
      · rw [← e];exact e1
      · exact h2.get e1
    have hk2:=(List.getElem?_eq_some_iff.1 e2).1
    exact ⟨hk2,Q7 e2 hk2⟩
  refine ⟨k,fun j hj => ?_,?_⟩
  · obtain ⟨a1,a2⟩:=h1 j hj
    obtain ⟨b1,b2⟩:=same j (by omega) a1
    exact ⟨b1,by rw [b2];exact a2⟩
  · rcases h2 with ⟨a1,a2,a3,a4⟩ | ⟨a1,a3,a4⟩
    · obtain ⟨b1,b2⟩:=same k (Nat.le_refl _) a1
      exact .inl ⟨b1,by rw [b2];exact a2,by rw [b2];exact a3,a4⟩
    · have hl : (st p a k).left = false:=by
        cases hl : (st p a k).left with
        | false => rfl
        | true => rw [hl] at a4;exact absurd a4 his
      rcases tw k (Nat.le_refl _) with e | ⟨e,_⟩
      · exact .inr (by rw [← e];exact ⟨a1,a3,a4⟩)
      · rw [hl] at e;cases e
end Go.Proofs.Ytnaomfmmkhgbhaa.K
namespace Go.Proofs.Ytnaomfmmkhgbhaa.K
theorem fit_low {p : Pg} (hc : Q.Counts p) {x : Nd} {nodes : Nat} (h : Q.may p.g p.l p.s p.len x nodes = true) : (x.kind = 3 → x.arg.toNat < p.l.toNat) ∧ (x.kind = 5 → x.alt.toNat < p.s.toNat):=by
  have hl:=hc.l;have hs:=hc.s
  unfold Q.may at h
  simp only [Bool.and_eq_true,decide_eq_true_eq,List.all_eq_true,List.mem_range] at h
  obtain ⟨_,hall⟩:=h
  have a0:=hall 0 (by omega)
  have a2:=hall 2 (by omega)
  constructor
  · intro k
    rw [k] at a0
    simp [Q.row,Q.rows,Q.size,Q.fields] at a0
    omega
  · intro k
    rw [k] at a2
    simp [Q.row,Q.rows,Q.size,Q.fields] at a2
    omega
structure Low (p : Pg) (c : M.Cf) : Prop where
  owns : c.owners.length = 16
  own : ∀ k,p.l.toNat ≤ k → c.owners.getD k 0 = 0
  eight : ∀ x ∈ c.ths,x.slots.length = 8
  slot : ∀ x ∈ c.ths,∀ k,p.s.toNat ≤ k → x.slots.getD k 0 = 0
theorem low_start (p : Pg) : Low p M.start:=by
  refine ⟨rfl,fun k _ => ?_,fun x hx => ?_,fun x hx k _ => ?_⟩
  · rw [show M.start.owners = List.replicate 16 0 from rfl,List.getD_eq_getElem?_getD,List.getElem?_replicate];split <;> rfl
  · rw [List.mem_singleton.1 hx];rfl
  · rw [List.mem_singleton.1 hx,List.getD_eq_getElem?_getD,List.getElem?_replicate];split <;> rfl
theorem Q4 {l : List Nat} {a v k : Nat} (h : a ≠ k) : (l.set a v).getD k 0 = l.getD k 0:=by
  rw [List.getD_eq_getElem?_getD,List.getElem?_set_ne h,List.getD_eq_getElem?_getD]
theorem getD_zero {l : List Nat} {a k : Nat} (h : l.getD k 0 = 0) : (l.set a 0).getD k 0 = 0:=by
  rw [List.getD_eq_getElem?_getD,List.getElem?_set]
  split
  · split <;> rfl
  · rw [← List.getD_eq_getElem?_getD];exact h
theorem yQ {p : Pg} {c : M.Cf} (h : Low p c) (t : Nat) (x : M.Th) (ow : List Nat) (h8 : x.slots.length = 8) (hs : ∀ k,p.s.toNat ≤ k → x.slots.getD k 0 = 0) (h16 : ow.length = 16) (ho : ∀ k,p.l.toNat ≤ k → ow.getD k 0 = 0) : Low p ⟨c.ths.set t x,ow⟩:=by
  have key : ∀ y ∈ c.ths.set t x,y ∈ c.ths ∨ y = x:=fun y hy => List.mem_or_eq_of_mem_set hy
  refine ⟨h16,ho,fun y hy => ?_,fun y hy => ?_⟩
  · rcases key y hy with h1 | rfl
    · exact h.eight y h1
    · exact h8
  · rcases key y hy with h1 | rfl
    · exact h.slot y h1
    · exact hs
theorem low_step {p : Pg} (hf : Fine p) {c : M.Cf} (hg : M.Good p c) (h : Low p c) (t : Int) (way : Bool) : Low p (M.step p c t way):=by
  unfold M.step
  split
  rotate_left
  · exact h
  rename_i hen
  obtain ⟨h0,he⟩:=M.enabled_split hen
  have hlv:=M.enabled_lives he
  have hm:=M.th_mem (M.lives_lt hlv)
  obtain ⟨fn,hfn,_,hnd⟩:=M.node_is hg hlv
  have hlow:=fit_low hf.counts (M.fine_node hf hfn hnd)
  obtain ⟨n,hn⟩ : ∃ n,M.node p c t.toNat = n:=⟨_,rfl⟩
  rw [hn] at hlow
  have e8:=h.eight _ hm
  have s8:=h.slot _ hm
  unfold M.act
  rw [hn]
  by_cases k9 : n.kind = 9
  · rw [if_pos k9];exact yQ h _ _ _ e8 s8 h.owns h.own
  rw [if_neg k9]
  by_cases k3 : n.kind = 3
  · rw [if_pos k3]
    refine yQ h _ _ _ e8 s8 (by rw [List.length_set];exact h.owns) fun k hk => ?_
    rw [Q4 (by have:=hlow.1 k3;omega)];exact h.own k hk
  rw [if_neg k3]
  by_cases k4 : n.kind = 4
  · rw [if_pos k4]
    refine yQ h _ _ _ e8 s8 ?_ ?_
    · split
      · rw [List.length_set];exact h.owns
      · exact h.owns
    · intro k hk
      split
      · exact getD_zero (h.own k hk)
      · exact h.own k hk
  rw [if_neg k4]
  by_cases k5 : n.kind = 5
  · rw [if_pos k5]
    have hL:=yQ h t.toNat ⟨M.goOn (M.th c t.toNat).stack n.next.toNat,(M.th c t.toNat).slots.set n.alt.toNat (c.ths.length + 1)⟩ c.owners (by rw [List.length_set];exact e8) (fun k hk => by
      rw [Q4 (by have:=hlow.2 k5;omega)];exact s8 k hk) h.owns h.own
    refine ⟨h.owns,h.own,fun x hx => ?_,fun x hx k hk => ?_⟩
    · rcases List.mem_append.1 hx with h1 | h1
      · exact hL.eight x h1
      · rw [List.mem_singleton.1 h1];rfl
    · rcases List.mem_append.1 hx with h1 | h1
      · exact hL.slot x h1 k hk
      · rw [List.mem_singleton.1 h1,List.getD_eq_getElem?_getD,List.getElem?_replicate];split <;> rfl
  rw [if_neg k5]
  by_cases k7 : n.kind = 7
  · rw [if_pos k7];exact yQ h _ _ _ e8 s8 h.owns h.own
  rw [if_neg k7]
  by_cases k8 : n.kind = 8 ∧ way = true
  · rw [if_pos k8];exact yQ h _ _ _ e8 s8 h.owns h.own
  · rw [if_neg k8];exact yQ h _ _ _ e8 s8 h.owns h.own
/-! ### the bytes -/
def two (s : List (Nat × Nat)) : List Nat:=s.flatMap fun f => [f.1,f.2]
def keyT (p : Pg) (x : M.Th) : List Nat:=x.slots.take p.s.toNat ++ (x.stack.length :: two x.stack)
def keyTs (p : Pg) (l : List M.Th) : List Nat:=l.flatMap (keyT p)
def key (p : Pg) (c : M.Cf) : List Nat:=c.owners.take p.l.toNat ++ keyTs p c.ths
theorem JE (f : Nat × Nat) (s : List (Nat × Nat)) : two (f :: s) = f.1 :: f.2 :: two s:=rfl
theorem xP (p : Pg) (x : M.Th) (l : List M.Th) : keyTs p (x :: l) = keyT p x ++ keyTs p l:=rfl
theorem two_len (s : List (Nat × Nat)) : (two s).length = 2 * s.length:=by
  induction s with
  | nil => rfl
  | cons f s ih => rw [JE,List.length_cons,List.length_cons,ih,List.length_cons];omega
theorem two_snoc (s : List (Nat × Nat)) (f : Nat × Nat) : two (s ++ [f]) = two s ++ [f.1,f.2]:=by unfold two;rw [List.flatMap_append];rfl
theorem keyTs_snoc (p : Pg) (l : List M.Th) (x : M.Th) : keyTs p (l ++ [x]) = keyTs p l ++ keyT p x:=by unfold keyTs;rw [List.flatMap_append];simp
theorem keyTs_len {p : Pg} : ∀ {l : List M.Th},(∀ x ∈ l,x.slots.length = 8 ∧ x.stack.length ≤ 16) → (keyTs p l).length ≤ 41 * l.length
  | [],_ => by simp [keyTs]
  | x :: l,h => by
    have ih:=keyTs_len (p:=p) (fun y hy => h y (List.mem_cons_of_mem _ hy) : ∀ y ∈ l,_)
    have h1:=h x (by simp)
    have h2 : (x.slots.take p.s.toNat).length ≤ 8:=by rw [List.length_take];omega
    rw [xP,List.length_append,List.length_cons]
    unfold keyT
    rw [List.length_append,List.length_cons,two_len]
    omega
theorem two_inj : ∀ {a b : List (Nat × Nat)} {r r' : List Nat},a.length = b.length → two a ++ r = two b ++ r' → a = b ∧ r = r'
  | [],[],_,_,_,h => ⟨rfl,h⟩
  | [],_ :: _,_,_,hl,_ => by simp at hl
  | _ :: _,[],_,_,hl,_ => by simp at hl
  | f :: a,g :: b,r,r',hl,h => by
    rw [JE,JE] at h
    simp only [List.cons_append,List.cons.injEq] at h
    obtain ⟨h1,h2,h3⟩:=h
    obtain ⟨e1,e2⟩:=two_inj (by simpa using hl) h3
    exact ⟨by rw [e1,Prod.ext h1 h2],e2⟩
theorem Q6 {l m : List Nat} {k n : Nat} (hl : l.length = n) (hm : m.length = n) (h1 : ∀ i,k ≤ i → l.getD i 0 = 0) (h2 : ∀ i,k ≤ i → m.getD i 0 = 0) (h : l.take k = m.take k) : l = m:=by
  apply List.ext_getElem?
  intro i
  rcases Nat.lt_or_ge i k with hi | hi
  · have:=congrArg (·[i]?) h
    simp only [List.getElem?_take,if_pos hi] at this
    exact this
  · rcases Nat.lt_or_ge i n with hn | hn
    · have a:=h1 i hi;have b:=h2 i hi
      rw [List.getD_eq_getElem?_getD,List.getElem?_eq_getElem (by omega)] at a b
      rw [List.getElem?_eq_getElem (by omega),List.getElem?_eq_getElem (by omega)]
      simp only [Option.getD_some] at a b
      rw [a,b]
    · rw [List.getElem?_eq_none (by omega),List.getElem?_eq_none (by omega)]
theorem keyT_inj {p : Pg} {x y : M.Th} {r r' : List Nat} (hx8 : x.slots.length = 8) (hy8 : y.slots.length = 8) (hx : ∀ k,p.s.toNat ≤ k → x.slots.getD k 0 = 0) (hy : ∀ k,p.s.toNat ≤ k → y.slots.getD k 0 = 0)
    (h : keyT p x ++ r = keyT p y ++ r') : x = y ∧ r = r':=by
  unfold keyT at h
  rw [List.append_assoc,List.append_assoc] at h
  have h1:=List.append_inj h (by simp [hx8,hy8])
  obtain ⟨e1,h2⟩:=h1
  simp only [List.cons_append,List.cons.injEq] at h2
  obtain ⟨e2,e3⟩:=two_inj h2.1 h2.2
  have e4:=Q6 hx8 hy8 hx hy e1
  cases x;cases y
  simp only at e2 e4
  subst e2 e4
  exact ⟨rfl,e3⟩
theorem LZ {p : Pg} : ∀ {a b : List M.Th},(∀ x ∈ a,x.slots.length = 8) → (∀ x ∈ b,x.slots.length = 8) → (∀ x ∈ a,∀ k,p.s.toNat ≤ k → x.slots.getD k 0 = 0) → (∀ x ∈ b,∀ k,p.s.toNat ≤ k → x.slots.getD k 0 = 0) →
    keyTs p a = keyTs p b → a = b
  | [],[],_,_,_,_,_ => rfl
  | [],y :: b,_,_,_,_,h => by
    rw [xP] at h
    have:=congrArg List.length h
    simp [keyTs,keyT] at this
  | x :: a,[],_,_,_,_,h => by
    rw [xP] at h
    have:=congrArg List.length h
    simp [keyTs,keyT] at this
  | x :: a,y :: b,h1,h2,h3,h4,h => by
    rw [xP,xP] at h
    obtain ⟨e1,e2⟩:=keyT_inj (h1 x (by simp)) (h2 y (by simp)) (h3 x (by simp)) (h4 y (by simp)) h
    rw [e1,LZ (fun z hz => h1 z (by simp [hz])) (fun z hz => h2 z (by simp [hz])) (fun z hz => h3 z (by simp [hz])) (fun z hz => h4 z (by simp [hz])) e2]
theorem key_inj {p : Pg} (hc : Q.Counts p) {c d : M.Cf} (h1 : Low p c) (h2 : Low p d) (h : key p c = key p d) : c = d:=by
  have hl:=hc.l;have hs:=hc.s
  unfold key at h
  obtain ⟨e1,e2⟩:=List.append_inj h (by simp [h1.owns,h2.owns])
  have e3:=Q6 h1.owns h2.owns h1.own h2.own e1
  have e4:=LZ (p:=p) h1.eight h2.eight h1.slot h2.slot e2
  cases c;cases d
  simp only at e3 e4
  rw [e3,e4]
theorem key_byte {p : Pg} (hf : Fine p) (hl : p.fns.length = p.len) {c : M.Cf} (hg : M.Good p c) : ∀ b ∈ key p c,b < 256:=by
  have h16:=hf.counts.f.2;have h8:=hg.most
  intro b hb
  unfold key at hb
  rcases List.mem_append.1 hb with h | h
  · have:=hg.own b (List.mem_of_mem_take h);omega
  · unfold keyTs at h
    obtain ⟨x,hx,h⟩:=List.mem_flatMap.1 h
    unfold keyT at h
    rcases List.mem_append.1 h with h | h
    · have:=hg.slot x hx b (List.mem_of_mem_take h);omega
    · rcases List.mem_cons.1 h with rfl | h
      · have:=M.high hf hl hg hx;omega
      · unfold two at h
        obtain ⟨f,hfm,h⟩:=List.mem_flatMap.1 h
        obtain ⟨fn,h1,h2⟩:=hg.spot x hx f hfm
        have h3:=(List.getElem?_eq_some_iff.1 h1).1
        have h4:=(Q.fine_fn h1 (hf.nodes f.1 h3)).2.1
        simp only [List.mem_cons,List.not_mem_nil,or_false] at h
        rcases h with rfl | rfl <;> omega
theorem low_all {p : Pg} (hf : Fine p) (hl : p.fns.length = p.len) {most : Int} {s : Sk} (h : Inv p most s) : ∀ (n i : Nat) (e : En),i < n → s.all[i]? = some e → Low p e.cf
  | 0,i,e,hi,_ => absurd hi (by omega)
  | n + 1,i,e,hi,he => by
    rcases h.src i e he with ⟨_,h2,_⟩ | ⟨_,h2,f,h3,_,h5,_⟩
    · rw [h2];exact low_start p
    · rw [h5]
      exact low_step hf (h.good f (List.mem_of_getElem? h3)) (low_all hf hl h n e.src f (by omega) h3) _ _
theorem has_key {p : Pg} (hf : Fine p) (hl : p.fns.length = p.len) {most : Int} {s : Sk} (h : Inv p most s) {c : M.Cf} (hc : Low p c) : has s.all c = true ↔ key p c ∈ s.all.map fun e => key p e.cf:=by
  rw [qQ,List.mem_map]
  constructor
  · rintro ⟨e,he,rfl⟩;exact ⟨e,he,rfl⟩
  · rintro ⟨e,he,hk⟩
    obtain ⟨i,hi⟩:=List.mem_iff_getElem?.1 he
    exact ⟨e,he,key_inj hf.counts (low_all hf hl h (i + 1) i e (by omega) hi) hc hk⟩
end Go.Proofs.Ytnaomfmmkhgbhaa.K
namespace Go.Proofs.Ytnaomfmmkhgbhaa
open Go.RowKit
def Ty (w : World) (g : Nat) : Option TypeId:=match w.heap[g]? with | some (.cells _ t _) => some t | _ => none
theorem Blk.ty {w : World} {g : Nat} {t : TypeId} {cs : List Value} (h : Blk w g t cs) : Ty w g = some t:=by unfold Ty;unfold Blk at h;rw [h]
theorem OwnR.ty {α : Type} {sz : Nat} {f : α → Nat → Value} {w : World} {B : Nat} {e : TypeId} {v : Value} {l : List α} (h : OwnR sz f w B e v l) : ∀ k,v.ownBlock = some k → Ty w k = some e:=by
  intro k hk
  rcases h.2 with ⟨rfl,_⟩ | ⟨g,cap,cur,rfl,_,hg,_⟩
  · cases hk
  · have : g = k:=by simpa [Value.ownBlock] using hk
    subst this
    unfold Ty;rw [hg]
theorem Own.ty {w : World} {B : Nat} {e : TypeId} {v : Value} {xs : List Value} (h : Own w B e v xs) : ∀ k,v.ownBlock = some k → Ty w k = some e:=by
  intro k hk
  rcases h.2 with ⟨rfl,_⟩ | ⟨g,cap,cur,rfl,_,hg,_⟩
  · cases hk
  · have : g = k:=by simpa [Value.ownBlock] using hk
    subst this
    unfold Ty;rw [hg]
theorem OwnR.heldAt {α : Type} {sz : Nat} {f : α → Nat → Value} {w w' : World} {B : Nat} {e : TypeId} {v : Value} {l : List α} {S : Nat → Prop} (h : OwnR sz f w B e v l) (hb : Held S w w') (hS : ∀ k,v.ownBlock = some k → S k) : OwnR sz f w' B e v l:=by
  refine ⟨h.1,?_⟩
  rcases h.2 with hn | ⟨g,cap,cur,rfl,hB,hg,rest⟩
  · exact .inl hn
  · exact .inr ⟨g,cap,cur,rfl,hB,by rw [hb.block g (hS g rfl)];exact hg,rest⟩
theorem Mine.held {w w' : World} {B : Nat} {q : Pc} {S : Nat → Prop} (h : Mine w B q) (hb : Held S w w') (hS : ∀ k,k < w.heap.size → Ty w k = some 94 ∨ Ty w k = some 133 → S k) : Mine w' B q :=
  ⟨h.row.heldAt hb fun k hk => hS k (h.row.block k hk).2 (.inl (h.row.ty k hk)),fun k x hx => (h.fam.own k x hx).heldAt hb fun b hv => hS b ((h.fam.own k x hx).block b hv).2 (.inr ((h.fam.own k x hx).ty b hv)),h.fam.out,h.fam.apart⟩
theorem Grew.held {w w' : World} {v v' : Value} (h : Grew w w' v v') : Held (fun k => k < w.heap.size ∧ v.ownBlock ≠ some k) w w':=Held.of_grown h.1 fun _ hk => ⟨hk.1,fun e => hk.2 e.symm⟩
theorem Mine.grew {w w' : World} {B B' : Nat} {q : Pc} {e : TypeId} {v v' : Value} {xs : List Value} (h : Mine w B q) (ho : Own w B' e v xs) (hg : Grew w w' v v') (h1 : e ≠ 94) (h2 : e ≠ 133) : Mine w' B q :=
  h.held hg.held fun k hk ht => ⟨hk,fun hv => by
    have:=ho.ty k hv
    rw [this] at ht
    rcases ht with ht | ht
    · exact h1 (Option.some.inj ht)
    · exact h2 (Option.some.inj ht)⟩
theorem Blk.grew {w w' : World} {g : Nat} {t : TypeId} {cs : List Value} {v v' : Value} (h : Blk w g t cs) (hg : Grew w w' v v') (hne : v.ownBlock ≠ some g) : Blk w' g t cs:=h.grown hg.1 fun e => hne e.symm
theorem Grew.then {w w1 w2 : World} {v v1 : Value} (h : Grew w w1 v v1) (hb : Below w1.heap.size w1 w2) : Grew w w2 v v1 :=
  ⟨⟨hb.os.trans h.1.os,hb.tape.trans h.1.tape,hb.output.trans h.1.output,Nat.le_trans h.1.size hb.size,fun i hi hne => (hb.block i (Nat.lt_of_lt_of_le hi h.1.size)).trans (h.1.block i hi hne)⟩,h.2⟩
theorem Grew.new {w w1 w2 : World} {v v2 : Value} (hb : Below w.heap.size w w1) (h : Grew w1 w2 v v2) : Grew w w2 v v2:=by
  refine ⟨⟨h.1.os.trans hb.os,h.1.tape.trans hb.tape,h.1.output.trans hb.output,Nat.le_trans hb.size h.1.size,fun i hi hne => (h.1.block i (Nat.lt_of_lt_of_le hi hb.size) hne).trans (hb.block i hi)⟩,?_⟩
  rcases h.2 with h2 | h2
  · exact .inl h2
  · exact .inr fun g hg => Nat.le_trans hb.size (h2 g hg)
def OwnT {α : Type} (sz : Nat) (f : α → Nat → Value) (w : World) (B : Nat) (e : TypeId) (A : Option Addr) (n cap : Nat) (l : List α) : Prop :=
  l.length = n ∧ n ≤ cap ∧ cap ≤ maxLen ∧ ((A = none ∧ cap = 0) ∨ ∃ g off cur,A = some ⟨g,off,none⟩ ∧ B ≤ g ∧ Blk w g e cur ∧ off + cap * sz ≤ cur.length ∧ ∀ k x,l[k]? = some x → ∀ j,j < sz → cur[off + k * sz + j]? = some (f x j))
section
variable {α : Type} {sz : Nat} {f : α → Nat → Value} {w w' : World} {B n cap : Nat} {e : TypeId} {A : Option Addr} {l : List α}
theorem OwnT.nil (sz : Nat) (f : α → Nat → Value) (w : World) (B : Nat) (e : TypeId) : OwnT sz f w B e none 0 0 []:=⟨rfl,Nat.le_refl _,by simp [maxLen],.inl ⟨rfl,rfl⟩⟩
theorem OwnT.block (h : OwnT sz f w B e A n cap l) : ∀ k,(Value.slice A n cap).ownBlock = some k → B ≤ k ∧ k < w.heap.size:=by
  intro k hk
  rcases h.2.2.2 with ⟨rfl,_⟩ | ⟨g,off,cur,rfl,hB,hb,_⟩
  · cases hk
  · have : g = k:=by simpa [Value.ownBlock] using hk
    subst this
    exact ⟨hB,hb.lt⟩
theorem OwnT.typed {b : Nat} {t : TypeId} {cs : List Value} (h : OwnT sz f w B e A n cap l) (hb : Blk w b t cs) (hne : e ≠ t) : (Value.slice A n cap).ownBlock ≠ some b:=by
  intro hk
  rcases h.2.2.2 with ⟨rfl,_⟩ | ⟨g,off,cur,rfl,_,hg,_⟩
  · cases hk
  · have : g = b:=by simpa [Value.ownBlock] using hk
    subst this
    unfold Blk at hb hg
    rw [hg] at hb
    injection hb with hb
    injection hb with _ h2
    exact hne h2
theorem OwnT.heldAt {S : Nat → Prop} (h : OwnT sz f w B e A n cap l) (hb : Held S w w') (hS : ∀ k,(Value.slice A n cap).ownBlock = some k → S k) : OwnT sz f w' B e A n cap l:=by
  refine ⟨h.1,h.2.1,h.2.2.1,?_⟩
  rcases h.2.2.2 with hn | ⟨g,off,cur,rfl,hB,hg,rest⟩
  · exact .inl hn
  · exact .inr ⟨g,off,cur,rfl,hB,hg.held hb (hS g rfl),rest⟩
theorem OwnT.far {row : Option Nat} (h : OwnT sz f w B e A n cap l) (hg : w.grownBy w' row) (hne : ∀ k,(Value.slice A n cap).ownBlock = some k → some k ≠ row) : OwnT sz f w' B e A n cap l :=
  h.heldAt (Held.of_grown (S:=fun k => k < w.heap.size ∧ some k ≠ row) hg fun _ hk => hk) fun k hk => ⟨(h.block k hk).2,hne k hk⟩
theorem OwnT.below {C : Nat} (h : OwnT sz f w B e A n cap l) (hb : Below C w w') (hC : w.heap.size ≤ C) : OwnT sz f w' B e A n cap l :=
  h.heldAt (Held.of_below (S:=fun k => k < w.heap.size) hb fun _ hk => Nat.lt_of_lt_of_le hk hC) fun k hk => (h.block k hk).2
theorem OwnT.recs (h : OwnT sz f w B e A n cap l) : Recs sz f w w.heap.size A n l:=by
  refine ⟨h.1,fun h0 => ?_⟩
  rcases h.2.2.2 with ⟨_,hc⟩ | ⟨g,off,cur,rfl,hB,hg,hs,hc⟩
  · have:=h.2.1;omega
  · refine ⟨_,rfl,hg.lt,fun k x hx j hj => ?_⟩
    have hadd : (⟨g,off,none⟩ : Addr).add (k * sz + j) = ⟨g,off + k * sz + j,none⟩:=by unfold Addr.add;split <;> simp_all <;> omega
    rw [hadd,hg.cell]
    exact hc k x hx j hj
theorem OwnR.tail (h : OwnR sz f w B e (.slice A n cap) l) : OwnT sz f w B e A n cap l:=by
  rcases h.2 with ⟨hv,h0⟩ | ⟨g,cap',cur,hv,hB,hg,hn,hm,hs,ht⟩
  · injection hv with e1 e2 e3
    subst e1 e2 e3
    exact ⟨h0,Nat.le_refl _,by simp [maxLen],.inl ⟨rfl,rfl⟩⟩
  · injection hv with e1 e2 e3
    subst e1 e2 e3
    refine ⟨rfl,hn,hm,.inr ⟨g,0,cur.toList,rfl,hB,by unfold Blk;simpa using hg,by simp [hs],fun k x hx j hj => ?_⟩⟩
    have h1:=lE sz f l k j x hx hj
    rw [← ht,List.getElem?_take] at h1
    rw [Nat.zero_add]
    split at h1
    · exact h1
    · cases h1
theorem splice_at {cur news : List Value} {p i : Nat} (hp : p + news.length ≤ cur.length) : (cur.take p ++ news ++ cur.drop (p + news.length))[i]? = if i < p then cur[i]? else if i < p + news.length then news[i - p]? else cur[i]?:=by
  have h1 : (cur.take p).length = p:=by rw [List.length_take];omega
  by_cases e1 : i < p
  · rw [if_pos e1,List.append_assoc,List.getElem?_append_left (by omega),List.getElem?_take,if_pos e1]
  · rw [if_neg e1]
    by_cases e2 : i < p + news.length
    · rw [if_pos e2,List.getElem?_append_left (by rw [List.length_append,h1];omega),List.getElem?_append_right (by omega),h1]
    · rw [if_neg e2,List.getElem?_append_right (by rw [List.length_append,h1];omega),List.length_append,h1,List.getElem?_drop]
      congr 1;omega
theorem QF {P : Program} (t ty : TypeId) (ht : P.underlying t = some (.slice e)) {z : Value} {bytes : Nat} (hi : (P.info? e).map (fun i => (i.zero,i.size,i.bytes)) = some (some z,sz,bytes)) (hzs : z.cells.size = sz)
    (hone : ∀ x j,(f x j).oneCell' = true) (h : OwnT sz f w B e A n cap l) (u : α) (ad : Addr) (c : Nat) (had : ∀ j,j < sz → w.cell? (ad.add j) = some (f u j))
    (h63 : n + 1 ≤ maxLen) (hbytes : (n + 1) * bytes ≤ 140737488355328) (hB : B ≤ w.heap.size) :
    ∃ A' cap' w',(Builtin.append_ #[t,t] ty #[.slice A n cap,.slice (some ad) 1 c]).run P w = .ok (.slice A' (n + 1) cap') w' ∧ OwnT sz f w' B e A' (n + 1) cap' (l ++ [u]) ∧ w.grownBy w' (Value.slice A n cap).ownBlock ∧ ((Value.slice A' (n + 1) cap').ownBlock = (Value.slice A n cap).ownBlock ∨ (Value.slice A' (n + 1) cap').ownBlock = some w.heap.size):=by
  obtain ⟨i,hi0,hz,hsize,hby⟩:=info_parts hi
  have hlen:=h.1;have hnc:=h.2.1;have hcm:=h.2.2.1
  have hm63 : n + 1 ≤ 9223372036854775807:=by simp only [maxLen] at h63;omega
  obtain ⟨news,hnw⟩ : ∃ news,(List.range sz).map (f u) = news:=⟨_,rfl⟩
  have hnl : news.length = sz:=by rw [← hnw];simp
  have hnat : ∀ j,j < sz → news[j]? = some (f u j):=fun j hj => by rw [← hnw,List.getElem?_map,List.getElem?_range hj];rfl
  have hnews : ∀ j v,news[j]? = some v → w.cell? (ad.add j) = some v:=fun j v hv => by
    have hj : j < sz:=by have:=(List.getElem?_eq_some_iff.1 hv).1;omega
    rw [had j hj,← hnat j hj,hv]
  have hn1 : ∀ v ∈ news,v.oneCell' = true:=fun v hv => by
    rw [← hnw] at hv
    obtain ⟨j,_,rfl⟩:=List.mem_map.1 hv
    exact hone u j
  have lt_sz : ∀ k,k * sz + sz = (k + 1) * sz:=fun k => by rw [Nat.add_mul];omega
  have key : ∀ k x,(l ++ [u])[k]? = some x → (k < n ∧ l[k]? = some x) ∨ (k = n ∧ x = u):=fun k x hx => by
    rcases Nat.lt_or_ge k l.length with hl | hl
    · rw [List.getElem?_append_left hl] at hx;exact .inl ⟨by omega,hx⟩
    · have h4:=(List.getElem?_eq_some_iff.1 hx).1
      simp only [List.length_append,List.length_singleton] at h4
      have e1 : k = l.length:=by omega
      subst e1
      rw [List.getElem?_append_right (Nat.le_refl _),Nat.sub_self] at hx
      exact .inr ⟨hlen,by simpa using hx.symm⟩
  by_cases hroom : n + 1 ≤ cap
  · rcases h.2.2.2 with ⟨_,hc⟩ | ⟨g,off,cur,rfl,hBg,hg,hs,hc⟩
    · omega
    have hle : (n + 1) * sz ≤ cap * sz:=Nat.mul_le_mul_right _ hroom
    have hfit : off + n * sz + 0 + news.length ≤ cur.toArray.size:=by have:=lt_sz n;simp;omega
    have hf:=run_firstCells_some (P:=P) w i.size 1 ad 1 c news (by rw [hnl,hsize];omega) hnews
    have hst:=run_storeCells_at P g (off + n * sz) e news 0 cur.toArray w hg hfit hn1
    simp only [Nat.add_zero] at hst
    rw [hsize] at hf
    refine ⟨some ⟨g,off,none⟩,cap,w.setRow g (cur.toArray.toList.take (off + n * sz) ++ news ++ cur.toArray.toList.drop (off + n * sz + news.length)).toArray,?_,?_,?_,.inl rfl⟩
    · simp [Builtin.append_,run_underlying ht,sizeOf,typeInfo,hi0,Builtin.lenOf,hroom,hf,Addr.add_mid,hsize,hst]
    · have hlen2 : (l ++ [u]).length = n + 1:=by simp [hlen]
      refine ⟨hlen2,hroom,hcm,.inr ⟨g,off,cur.take (off + n * sz) ++ news ++ cur.drop (off + n * sz + news.length),rfl,hBg,?_,?_,?_⟩⟩
      · unfold Blk
        rw [setRow_heap w g cur.toArray _ e _ hg]
      · simp only [List.length_append,List.length_take,List.length_drop]
        have:=lt_sz n;omega
      · intro k x hx j hj
        rw [splice_at (by have:=lt_sz n;omega)]
        rcases key k x hx with ⟨hk,hx'⟩ | ⟨rfl,rfl⟩
        · have : (k + 1) * sz ≤ n * sz:=Nat.mul_le_mul_right _ hk
          have:=lt_sz k
          rw [if_pos (by omega)]
          exact hc k x hx' j hj
        · rw [if_neg (by omega),if_pos (by omega),show off + k * sz + j - (off + k * sz) = j by omega]
          exact hnat j hj
    · exact ⟨rfl,rfl,rfl,by simp,fun k _ hk => setRow_other w g k _ (fun e => hk (by simp [Value.ownBlock,e]))⟩
  · have hfull : cap = n:=by omega
    subst hfull
    have hge:=grownCap_ge w (cap + 1) cap e
    have hgm : grownCap w (cap + 1) cap e ≤ maxLen:=grownCap_le_maxLen w (cap + 1) cap e h63
    have finish : ∀ (olds : List Value) (wd : World),wd.heap = w.heap → wd.os = w.os → wd.tape = w.tape → wd.output = w.output → olds.length = cap * sz → (∀ k x,l[k]? = some x → ∀ j,j < sz → olds[k * sz + j]? = some (f x j)) → ∀ row,
        OwnT sz f (wd.alloc (.cells (olds.toArray ++ news.toArray ++ Builtin.zeroCells z.cells (grownCap w (cap + 1) cap e - (cap + 1))) e)) B e (some ⟨w.heap.size,0,none⟩) (cap + 1) (grownCap w (cap + 1) cap e) (l ++ [u]) ∧
        w.grownBy (wd.alloc (.cells (olds.toArray ++ news.toArray ++ Builtin.zeroCells z.cells (grownCap w (cap + 1) cap e - (cap + 1))) e)) row:=by
      intro olds wd hh ho htp hout hol hoc row
      have hlen2 : (l ++ [u]).length = cap + 1:=by simp [hlen]
      have hzl:=size_zeroCells z.cells (grownCap w (cap + 1) cap e - (cap + 1))
      refine ⟨⟨hlen2,hge,hgm,.inr ⟨w.heap.size,0,olds ++ news ++ (Builtin.zeroCells z.cells (grownCap w (cap + 1) cap e - (cap + 1))).toList,rfl,hB,?_,?_,?_⟩⟩,⟨ho,htp,hout,by simp [hh],fun k hk _ => ?_⟩⟩
      · have h1:=Blk.newA wd e (olds.toArray ++ news.toArray ++ Builtin.zeroCells z.cells (grownCap w (cap + 1) cap e - (cap + 1))) (olds ++ news ++ (Builtin.zeroCells z.cells (grownCap w (cap + 1) cap e - (cap + 1))).toList) (by simp)
        rw [show wd.heap.size = w.heap.size by rw [hh]] at h1
        exact h1
      · rw [List.length_append,List.length_append,hol,hnl,Array.length_toList,hzl,hzs,Nat.sub_mul,Nat.zero_add]
        have : (cap + 1) * sz ≤ grownCap w (cap + 1) cap e * sz:=Nat.mul_le_mul_right _ hge
        have:=lt_sz cap
        omega
      · intro k x hx j hj
        rw [Nat.zero_add]
        rcases key k x hx with ⟨hk,hx'⟩ | ⟨rfl,rfl⟩
        · have : (k + 1) * sz ≤ cap * sz:=Nat.mul_le_mul_right _ hk
          have:=lt_sz k
          rw [List.append_assoc,List.getElem?_append_left (by omega)]
          exact hoc k x hx' j hj
        · rw [List.append_assoc,List.getElem?_append_right (by omega),hol,show k * sz + j - k * sz = j by omega,List.getElem?_append_left (by omega)]
          exact hnat j hj
      · rw [Below.heap_alloc wd _ k (by rw [hh];exact hk),hh]
    rcases h.2.2.2 with ⟨rfl,hc⟩ | ⟨g,off,cur,rfl,hBg,hg,hs,hc⟩
    · subst hc
      have hl0 : l = []:=List.eq_nil_of_length_eq_zero hlen
      subst hl0
      have hr:=run_append_nil (P:=P) w t ty e i z ht hi0 hz ad 1 c news (by rw [hnl,hsize];omega) hnews (by omega) (by omega) (by have hb:=hbytes;simp only [Nat.zero_add] at hb;rw [hby];omega)
      obtain ⟨h1,h2⟩:=finish [] w.drew rfl rfl rfl rfl (by simp) (fun k x hx => by simp at hx) (Value.slice none 0 0).ownBlock
      simp only [Nat.zero_add,List.nil_append] at hr h1 h2 ⊢
      exact ⟨_,_,_,hr,by simpa using h1,by simpa using h2,.inr rfl⟩
    · obtain ⟨olds,hold⟩ : ∃ olds,(cur.drop off).take (cap * sz) = olds:=⟨_,rfl⟩
      have hol : olds.length = cap * sz:=by rw [← hold,List.length_take,List.length_drop];omega
      have hoat : ∀ j,j < cap * sz → olds[j]? = cur[off + j]?:=fun j hj => by rw [← hold,List.getElem?_take,if_pos hj,List.getElem?_drop]
      have hr:=run_append_grow (P:=P) w t ty e i z ht hi0 hz ⟨g,off,none⟩ cap cap olds (by rw [hol,hsize]) (fun j v hv => by
        have hj : j < cap * sz:=by have:=(List.getElem?_eq_some_iff.1 hv).1;omega
        rw [Addr.add_mid,hg.cell,← hoat j hj,hv]) ad 1 c news (by rw [hnl,hsize];omega) hnews (by omega) (by omega) (growslice_fits (by omega) (by rw [hby];exact hbytes))
      obtain ⟨h1,h2⟩:=finish olds w.drew rfl rfl rfl rfl hol (fun k x hx j hj => by
        have hk : k < cap:=by have:=(List.getElem?_eq_some_iff.1 hx).1;omega
        have : (k + 1) * sz ≤ cap * sz:=Nat.mul_le_mul_right _ hk
        have:=lt_sz k
        rw [hoat _ (by omega),← Nat.add_assoc]
        exact hc k x hx j hj) (Value.slice (some ⟨g,off,none⟩) cap cap).ownBlock
      exact ⟨_,_,_,hr,h1,h2,.inr rfl⟩
theorem jS {P : Program} {ops : Array Oper} {rest : List Oper} {o : Oper} {a : Act} {Q : Exit → Act → World → Prop} (hgd : o.guard = none) (s x : Operand) (t : TypeId)
    (ho : o.op = .call { callee:=.builtin .append,args:=#[s,x],argTypes:=#[t,t] }) (ht : P.underlying t = some (.slice e)) {z : Value} {bytes : Nat} (hi : (P.info? e).map (fun i => (i.zero,i.size,i.bytes)) = some (some z,sz,bytes)) (hzs : z.cells.size = sz)
    (hone : ∀ x j,(f x j).oneCell' = true) (hs : a.eval s = .slice A n cap) (hown : OwnT sz f w B e A n cap l) (u : α) (ad : Addr) (c : Nat) (hx : a.eval x = .slice (some ad) 1 c) (had : ∀ j,j < sz → w.cell? (ad.add j) = some (f u j))
    (h63 : n + 1 ≤ maxLen) (hbytes : (n + 1) * bytes ≤ 140737488355328) (hB : B ≤ w.heap.size)
    (h : ∀ A' cap' w',OwnT sz f w' B e A' (n + 1) cap' (l ++ [u]) → Grew w w' (.slice A n cap) (.slice A' (n + 1) cap') → wpList P ops Q rest (a.put o.dst (.slice A' (n + 1) cap')) w') : wpList P ops Q (o :: rest) a w:=by
  refine wpList_plain hgd fun K hK => ?_
  obtain ⟨A',cap',w',hr,h2,h3,h4⟩:=QF (P:=P) t o.type ht hi hzs hone hown u ad c had h63 hbytes hB
  unfold Oper.wp execOp
  simp only [ho,resolve,invoke,builtin,Sem.run_bind,Sem.run_pure,Result.andThen_ok,List.map_toArray,List.map_cons,List.map_nil,hs,hx,hr]
  exact hK _ _ (h A' cap' w' h2 ⟨h3,h4.elim .inl fun h4 => .inr fun g hg => by rw [h4] at hg;cases hg;exact Nat.le_refl _⟩)
end
end Go.Proofs.Ytnaomfmmkhgbhaa
