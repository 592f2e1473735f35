import PyProof.Rows.All
import Wide.All
import OpenK.AllK
import Wide.FinOn
import PyProof.EqAt
import PyProof.EqKinds
import PyProof.TupleCall
import PyProof.RulesMatchSeq
import PyProof.Rows.MatchSeqLen
import HandS.ForMost
import HandS.Walk
import HandS.Text
import HandS.Iter
import HandS.Wide
import HandS.IsInst
import PySem.Challenge.RW_quotedback_k02_first_words
set_option Elab.async false
set_option linter.all false
set_option maxRecDepth 100000
set_option maxHeartbeats 8000000
namespace PySem
namespace Qb
open PySem.W PySem.Calls PyProof.Rows L2
/-! # match over tuples, texts and names -/
/-- what a pattern asks: the values of its names in their order, or that it does not fit -/
abbrev PatR := V → Hp → (Option (List V) → Prop) → Prop
def PatE (X : Cx) (pins : List (Addr × Obj)) (σ : L2.St) (H : Hp) (ns : List Str) (Q : Option (List V) → Prop) (res : Option (List (Str × Value))) (s : Shared) : Prop :=
  Inv X pins σ H s ∧ match res with
    | none => Q none
    | some bs => bs.map (·.1) = ns ∧ ∃ vs, Vals vs (bs.map (·.2)) ∧ Q (some vs)
structure PPt (X : Cx) (pat : Pattern) (ns : List Str) (r : PatR) : Prop where
  run : ∀ (pins : List (Addr × Obj)) (s : Shared) (σ : L2.St) (H : Hp) (v : V) (u : Value) (Q : Option (List V) → Prop), Inv X pins σ H s → RelV v u → r v H Q →
    wpAny (model X.prog X.w) X.A (matchPattern pat X.env u) (fun res s1 => PatE X pins σ H ns Q res s1) X.xe s
def rEach : List PatR → List V → Hp → (Option (List V) → Prop) → Prop
  | r :: rs, x :: xs, H, Q => r x H fun o => match o with
    | none => Q none
    | some vs => rEach rs xs H fun o' => match o' with
      | none => Q none
      | some more => Q (some (vs ++ more))
  | _, _, _, Q => Q (some [])
structure PPs (X : Cx) (pats : List Pattern) (ns : List Str) (rs : List PatR) : Prop where
  len : rs.length = pats.length
  run : ∀ (pins : List (Addr × Obj)) (s : Shared) (σ : L2.St) (H : Hp) (vs : List V) (us : List Value) (Q : Option (List V) → Prop), Inv X pins σ H s → Vals vs us → vs.length = pats.length → rEach rs vs H Q →
    wpAny (model X.prog X.w) X.A (matchEach pats X.env us) (fun res s1 => PatE X pins σ H ns Q res s1) X.xe s
theorem ext_keeps {h h2 : Heap} (ex : Heap.ExtBut h.objs.size h h2) (b : Addr) (o : Obj) (z : h.get? b = some o) : h2.get? b = some o := by
  exact ex b o (Nat.ne_of_lt (Heap.lt_size z)) z
section
variable {X : Cx} {pos pos' : Pos}
def rLit (c : Str) : PatR := fun v _ Q => ∃ y, v = .str y ∧ Q (if y = c then some [] else none)
theorem pp_lit {c : Str} {j : Nat} : PPt X (.MatchValue (.Constant (.str c) j pos) pos') [] (rLit c) := by
  refine ⟨fun pins s σ H v u Q I r h => wpAny_matchPattern_Value ?_⟩
  obtain ⟨y, rfl, q⟩ := h
  refine thn (pe_str.run pins s σ H (fun z H1 => z = .str c ∧ H1 = H) I ⟨rfl, rfl⟩) fun x s1 ⟨z, H1, I1, rz, ez, eH⟩ => ?_
  subst ez
  subst eH
  refine thn (op_eq pins s1 σ H1 (.str y) (.str c) u x (fun w H2 => w = .bl (decide (V.str y = V.str c)) ∧ H2 = H1) I1 r rz ⟨rfl, rfl, rfl⟩) fun b s2 ⟨w, H2, I2, rw2, ew, eH⟩ => ?_
  subst ew
  subst eH
  obtain rfl : b = Value.bool (decide (V.str y = V.str c)) := rw2
  show wpAny _ _ (truthy (.bool _)) _ _ _
  refine wpAny_pure ?_
  by_cases e : y = c
  · rw [if_pos e] at q
    rw [if_pos (by simpa using e)]
    exact ⟨I2, rfl, [], .nil, q⟩
  · rw [if_neg e] at q
    rw [if_neg (by simpa using e)]
    exact ⟨I2, q⟩
def rCap : PatR := fun v _ Q => Q (some [v])
theorem pp_cap {n : Str} : PPt X (.MatchAs none (some n) pos) [n] rCap :=
  ⟨fun pins s σ H v u Q I r h => wpAny_matchPattern_Capture ⟨I, rfl, [v], .cons r .nil, h⟩⟩
def rAny1 : PatR := fun _ _ Q => Q (some [])
theorem pp_any : PPt X (.MatchAs none none pos) [] rAny1 :=
  ⟨fun pins s σ H v u Q I r h => wpAny_matchPattern_Capture ⟨I, rfl, [], .nil, h⟩⟩
theorem pps_nil : PPs X [] [] [] :=
  ⟨rfl, fun pins s σ H vs us Q I r hl h => by
    cases r with
    | nil => exact wpAny_matchEach_nil ⟨I, rfl, [], .nil, h⟩
    | cons _ _ => cases hl⟩
theorem pps_cons {p : Pattern} {ps : List Pattern} {ns ms : List Str} {r : PatR} {rs : List PatR} (h1 : PPt X p ns r) (h2 : PPs X ps ms rs) (hp : p.isStar = false := by rfl) : PPs X (p :: ps) (ns ++ ms) (r :: rs) := by
  refine ⟨congrArg Nat.succ h2.len, fun pins s σ H vs us Q I rv hl h => ?_⟩
  cases rv with
  | nil => cases hl
  | @cons x u xs us rx rt =>
    refine wpAny_matchEach_cons (thn (h1.run pins s σ H x u _ I rx h) fun res s1 ⟨I1, z⟩ => ?_) hp
    cases res with
    | none => exact ⟨I1, z⟩
    | some bs =>
      obtain ⟨e1, vs1, r1, q1⟩ := z
      refine thn (h2.run pins s1 σ H xs us _ I1 rt (Nat.succ.inj hl) q1) fun res2 s2 ⟨I2, z2⟩ => ?_
      cases res2 with
      | none => exact ⟨I2, z2⟩
      | some more =>
        obtain ⟨e2, vs2, r2, q2⟩ := z2
        exact ⟨I2, by rw [List.map_append, e1, e2], vs1 ++ vs2, by rw [List.map_append]; exact r1.append r2, q2⟩
def rSeq (K : Frag) (n : Nat) (rs : List PatR) : PatR := fun v H Q => ∃ a xs, v = .ref a ∧ SqT K H a xs ∧ (xs.length ≠ n → Q none) ∧ (xs.length = n → rEach rs xs H Q)
theorem pp_seq {ps : List Pattern} {ns : List Str} {rs : List PatR} {n : Nat} (hc : X.calm = true) (h : PPs X ps ns rs) (hn : ps.length = n := by rfl) (hstar : ps.findIdx? (·.isStar) = none := by rfl)
    (hwild : (ps.all fun p => p.isWildcard || (p.isStar && p.names.isEmpty)) = false := by rfl) : PPt X (.MatchSequence ps pos) ns (rSeq X.K n rs) := by
  refine ⟨fun pins s σ H v u Q I r h' => ?_⟩
  obtain ⟨a, xs, rfl, sq, qn, qy⟩ := h'
  obtain rfl : u = Value.ref a := r
  obtain ⟨its, rv, ht, hz⟩ := I.tuple sq
  have hfit : ((its.toArray.size : Nat) : Int) < 2 ^ 63 := by
    have e := rv.length
    rw [List.size_toArray, ← e]
    rw [sizeLine_eq] at hz
    omega
  have e := rv.length
  by_cases c : xs.length = n
  · refine matchSeq_tuple_hit ht hfit (by rw [List.size_toArray, ← e, c, hn]) ?_ hstar hwild
    have sz : ps.length = its.toArray.size := by rw [List.size_toArray, ← e, c, hn]
    rw [sz]
    refine unpackItems_tuple (I.ok.hd hc) ht fun h2 ex => ?_
    have J : Inv X pins σ H { s with heap := h2, toks := s.toks + 1 + 1 } := I.kept (t' := s.toks + 1 + 1) fun b o z => ext_keeps ex b o z
    refine h.run pins _ σ H xs _ Q J (by simpa using rv) (by rw [c, hn]) (qy c)
  · exact matchSeq_tuple_miss ht hfit (by rw [List.size_toArray, ← e, hn]; exact c) ⟨I.tok _, qn c⟩ hstar hwild
/-- one of some patterns without names -/
def rOr : List PatR → PatR
  | [] => fun _ _ Q => Q none
  | r :: rs => fun v H Q => r v H fun o => match o with
    | some vs => Q (some vs)
    | none => rOr rs v H Q
structure PFirst (X : Cx) (pats : List Pattern) (rs : List PatR) : Prop where
  run : ∀ (pins : List (Addr × Obj)) (s : Shared) (σ : L2.St) (H : Hp) (v : V) (u : Value) (Q : Option (List V) → Prop), Inv X pins σ H s → RelV v u → rOr rs v H Q →
    wpAny (model X.prog X.w) X.A (matchFirst pats X.env u) (fun res s1 => PatE X pins σ H [] Q res s1) X.xe s
theorem pf_nil : PFirst X [] [] := ⟨fun pins s σ H v u Q I r h => wpAny_matchFirst_nil ⟨I, h⟩⟩
theorem pf_cons {p : Pattern} {ps : List Pattern} {r : PatR} {rs : List PatR} (h1 : PPt X p [] r) (h2 : PFirst X ps rs) : PFirst X (p :: ps) (r :: rs) := by
  refine ⟨fun pins s σ H v u Q I rv h => wpAny_matchFirst_cons (thn (h1.run pins s σ H v u _ I rv h) fun res s1 ⟨I1, z⟩ => ?_)⟩
  cases res with
  | none => exact h2.run pins s1 σ H v u Q I1 rv z
  | some bs => exact ⟨I1, z⟩
theorem pp_or {ps : List Pattern} {rs : List PatR} (h : PFirst X ps rs) (hno : namesOfAll (ps.take 1) = [] := by rfl) : PPt X (.MatchOr ps pos) [] (rOr rs) := by
  refine ⟨fun pins s σ H v u Q I r h' => wpAny_matchPattern_Or (thn (h.run pins s σ H v u Q I r h') fun res s1 ⟨I1, z⟩ => ?_)⟩
  cases res with
  | none => exact ⟨I1, z⟩
  | some bs =>
    obtain ⟨e, vs, rv, q⟩ := z
    have e0 : bs = [] := List.map_eq_nil_iff.mp e
    subst e0
    cases rv
    rw [hno]
    exact ⟨I1, rfl, [], .nil, q⟩
/-- names stored in their slots, from the left -/
def setAll : L2.St → List Nat → List V → L2.St
  | σ, i :: is, v :: vs => setAll (σ.set i (some v)) is vs
  | σ, _, _ => σ
def SlotsOk (X : Cx) (ns : List Str) (is : List Nat) : Prop := Paired (fun n i => X.N[i]? = some n ∧ L2.Loc X.env.scope n ∧ (X.fn n = true ∨ X.env.scope.names.lookup n = some .local)) ns is
theorem store_all (hN : X.N.Nodup) {pins : List (Addr × Obj)} {H : Hp} {Q : Unit → Shared → Prop} : ∀ {ns : List Str} {is : List Nat} {bs : List (Str × Value)} {vs : List V} {σ : L2.St} {s : Shared}, SlotsOk X ns is → bs.map (·.1) = ns → Vals vs (bs.map (·.2)) → Inv X pins σ H s →
    (∀ s', Inv X pins (setAll σ is vs) H s' → Q () s') → wpAny (model X.prog X.w) X.A (assignInOrder (bs.map fun (n, _) => bindName X.env n) (bs.map (·.2))) Q X.xe s
  | _, _, [], _, _, _, ok, e, rv, I, q => by
    subst e
    cases rv
    cases ok
    exact wpAny_assignInOrder_none (q _ I)
  | _, _, (n, u) :: bs, _, _, _, ok, e, rv, I, q => by
    subst e
    cases rv with
    | cons r1 r2 =>
      cases ok with
      | cons o1 o2 =>
        refine wpAny_assignInOrder_more (wpAny_bindName (store_ok I hN o1.1 o1.2.1 r1 (fun s' I' => store_all hN o2 rfl r2 I' q) o1.2.2))
def tCases : List (List Nat × PatR × TS) → V → TS
  | [], _ => fun D σ H => D.nx σ H
  | (is, r, t) :: rest, v => fun D σ H => r v H fun o => match o with
    | none => tCases rest v D σ H
    | some vs => t D (setAll σ is vs) H
structure PCs (X : Cx) (cases : List MatchCase) (cs : List (List Nat × PatR × TS)) : Prop where
  run : ∀ (pins : List (Addr × Obj)) (s : Shared) (σ : L2.St) (H : Hp) (D : Ends) (v : V) (u : Value) (first : Bool), Inv X pins σ H s → RelV v u → tCases cs v D σ H →
    wpAny (model X.prog X.w) X.A (matchCases cases X.env u first) (SP X pins D) X.xe s
theorem pcs_nil : PCs X [] [] := ⟨fun pins s σ H D v u first I r h => wpAny_matchCases_nil ⟨σ, H, I, h⟩⟩
theorem pcs_cons {p : Pattern} {body : List Stmt} {cases : List MatchCase} {ns : List Str} {is : List Nat} {r : PatR} {t : TS} {cs : List (List Nat × PatR × TS)} (hN : X.N.Nodup) (h1 : PPt X p ns r) (hs : SlotsOk X ns is) (hb : PSs X body t) (h2 : PCs X cases cs) :
    PCs X (⟨p, none, body⟩ :: cases) ((is, r, t) :: cs) := by
  refine ⟨fun pins s σ H D v u first I rv h => wpAny_matchCases_cons (thn (h1.run pins s σ H v u _ I rv h) fun res s1 ⟨I1, z⟩ => ?_)⟩
  cases res with
  | none => exact h2.run pins s1 σ H D v u false I1 rv z
  | some bs =>
    obtain ⟨e, vs, r2, q⟩ := z
    exact store_all hN hs e r2 I1 fun s2 I2 => hb.run pins s2 _ H D I2 q
def tMatch (te : TE) (cs : List (List Nat × PatR × TS)) : TS := fun D σ H => te σ H fun v H1 => tCases cs v D σ H1
theorem ps_match {e : Expr} {cases : List MatchCase} {te : TE} {cs : List (List Nat × PatR × TS)} (he : PE X e te) (hc : PCs X cases cs) : PS X (.Match e cases pos) (tMatch te cs) :=
  ⟨fun pins s σ H D I h => wpAny_Match (thn (he.run pins s σ H _ I h) fun u s1 ⟨v, H1, I1, rv, q⟩ => hc.run pins s1 σ H1 D v u true I1 rv q)⟩
end
end Qb
end PySem
namespace PySem
namespace Qb
open PySem.W PySem.Calls PyProof.Rows L2
def top (i : Nat) : Stmt := PySem.Challenge.pw_quotedback_k02_first_words.main.body.getD i (.Pass ⟨0, 0, 0, 0⟩)
theorem same_upd {H : Hp} {a : Addr} {o : HO} (h : H a = none) : Same H (upd H a o) := fun b u e => by
  rw [upd_ne (ne_of_none e h)]
  exact e
theorem same_upd2 {H H1 : Hp} {a : Addr} {o : HO} (s : Same H H1) (h : H a = none) : Same H (upd H1 a o) := fun b u e => by
  rw [upd_ne (ne_of_none e h)]
  exact s b u e
theorem take_snoc {α : Type} {l : List α} {i : Nat} {x : α} (h : l[i]? = some x) : l.take (i + 1) = l.take i ++ [x] := by
  rw [List.take_succ, h]
  rfl
theorem if_no {c : Bool} {A B : Prop} (h : c = false) (b : B) : if c = true then A else B := by
  rw [h, if_neg Bool.false_ne_true]
  exact b
theorem if_yes {c : Bool} {A B : Prop} (h : c = true) (a : A) : if c = true then A else B := by
  rw [if_pos h]
  exact a
theorem if_by {c : Bool} {A B : Prop} (a : c = true → A) (b : c = false → B) : if c = true then A else B := by
  cases c with
  | true => exact a rfl
  | false => exact b rfl
abbrev cs (x : Str) : List Nat := x.cps.toList
def startS : Str := "abcdefghijklmnopqrstuvwxyzABCDEFGHIJKLMNOPQRSTUVWXYZ_"
def nameS : Str := "abcdefghijklmnopqrstuvwxyzABCDEFGHIJKLMNOPQRSTUVWXYZ_0123456789"
def bareS : Str := "abcdefghijklmnopqrstuvwxyzABCDEFGHIJKLMNOPQRSTUVWXYZ0123456789./_-,:+@=*?[]!~"
/-- the longest name at the beginning -/
def nameLen : List Nat → Nat
  | [] => 0
  | c :: r => if c ∈ cs startS then 1 + (r.takeWhile fun d => decide (d ∈ cs nameS)).length else 0
def isNameB (l : List Nat) : Bool := !l.isEmpty && nameLen l == l.length
def isBareB (l : List Nat) : Bool := !l.isEmpty && l.all fun d => decide (d ∈ cs bareS)
def beginsB (l : List Nat) : Bool := decide (0 < nameLen l) && l[nameLen l]? == some 61
/-- what the text's top says of its written texts -/
structure Wrt (mg : Str → Option Value) : Prop where
  st : ∃ t, mg "NAME_STARTS" = some (.str startS t)
  nm : ∃ t, mg "NAME_SIGNS" = some (.str nameS t)
  br : ∃ t, mg "BARE_SIGNS" = some (.str bareS t)
  len : mg "len" = none
  all : mg "all" = none
  any : mg "any" = none
  zip : mg "zip" = none
  enum : mg "enumerate" = none
  rev : mg "reversed" = none
def big : Nat := 100000
/-- a text in, a value out, nothing made that is kept -/
def spTxt (g : Str → V) : Sp := fun vs H Q _ => ∃ x : Str, vs = [.str x] ∧ x.length ≤ big ∧ ∀ H', Same H H' → Q (g x) H'
theorem glob_str {X : Cx} {x : Str} {c : Str} {pos : Pos} (hg : Gl X x) (hm : ∃ t, X.mg x = some (.str c t)) (hd : (x == ("__debug__" : Str)) = false := by decide) : PE X (.Name x pos) (tC (.str c)) := by
  obtain ⟨t, e⟩ := hm
  exact pe_glob hg e ⟨t, rfl⟩ hd
abbrev sNL : Stmt := top 10
abbrev sIN : Stmt := top 11
abbrev sIB : Stmt := top 13
abbrev sBS : Stmt := top 14
theorem scNL : FnScope ["text", "length"] ["text"] (defScope sNL) := ⟨rfl, rfl, rfl, by decide +kernel, rfl, by decide +kernel, by decide +kernel⟩
theorem scIN : FnScope ["text"] ["text"] (defScope sIN) := ⟨rfl, rfl, rfl, by decide +kernel, rfl, by decide +kernel, by decide +kernel⟩
theorem scIB : FnScope ["text", "sign"] ["text"] (defScope sIB) := ⟨rfl, rfl, rfl, by decide +kernel, rfl, by decide +kernel, by decide +kernel⟩
theorem scBS : FnScope ["text", "length"] ["text"] (defScope sBS) := ⟨rfl, rfl, rfl, by decide +kernel, rfl, by decide +kernel, by decide +kernel⟩
section
variable {P : Program} {w : World} {K : Frag} {mg : Str → Option Value} {base : Heap}
theorem big_line {x : Str} (h : x.length ≤ big) : x.length ≤ sizeLine := by
  rw [sizeLine_eq]
  unfold big at h
  omega
theorem tw_le {p : Nat → Bool} : ∀ (r : List Nat), (r.takeWhile p).length ≤ r.length
  | [] => Nat.le_refl _
  | c :: r => by
    by_cases h : p c = true
    · rw [List.takeWhile_cons_of_pos h, List.length_cons, List.length_cons]
      exact Nat.succ_le_succ (tw_le r)
    · rw [List.takeWhile_cons_of_neg h]
      exact Nat.zero_le _
theorem tw_on {p : Nat → Bool} : ∀ (r : List Nat) (k : Nat) (c : Nat), r[k]? = some c → k ≤ (r.takeWhile p).length → p c = true → k + 1 ≤ (r.takeWhile p).length
  | [], k, c, h, _, _ => by cases h
  | d :: r, 0, c, h, _, hp => by
    have e : d = c := Option.some.inj h
    subst e
    rw [List.takeWhile_cons_of_pos hp, List.length_cons]
    omega
  | d :: r, k + 1, c, h, hk, hp => by
    by_cases hd : p d = true
    · rw [List.takeWhile_cons_of_pos hd, List.length_cons] at hk ⊢
      exact Nat.succ_le_succ (tw_on r k c h (by omega) hp)
    · rw [List.takeWhile_cons_of_neg hd] at hk
      exact absurd hk (by simp)
theorem tw_off {p : Nat → Bool} : ∀ (r : List Nat) (k : Nat), k ≤ (r.takeWhile p).length → (∀ c, r[k]? = some c → p c = false) → k = (r.takeWhile p).length
  | [], k, h, _ => by simpa using h
  | d :: r, 0, _, h => by
    have e := h d rfl
    rw [List.takeWhile_cons_of_neg (by rw [e]; decide)]
    rfl
  | d :: r, k + 1, hk, h => by
    by_cases hd : p d = true
    · rw [List.takeWhile_cons_of_pos hd, List.length_cons] at hk ⊢
      exact congrArg Nat.succ (tw_off r k (by omega) h)
    · rw [List.takeWhile_cons_of_neg hd] at hk
      exact absurd hk (by simp)
theorem len_cs (x : Str) : x.length = (cs x).length := by
  show x.cps.size = x.cps.toList.length
  simp
theorem cs_nil {x : Str} (h : cs x = []) : x = ("" : Str) := by
  obtain ⟨a⟩ := x
  have e : a = #[] := by
    apply Array.toList_inj.mp
    simpa using h
  subst e
  rfl
theorem ok_nl {f : Addr} {fd : FuncData} (F : Fun K "name_length" "name_length" sNL f fd) (W : Wrt mg) : FnOk P w K mg base CX0 1 f fd ["text"] (spTxt fun x => .int (nameLen (cs x))) := by
  refine F.ok scNL (fun vs H Q E h => ?_) (fun cdv A outer s H vs Q E hr h => ?_)
  · obtain ⟨x, rfl, _⟩ := h
    rfl
  · refine ⟨_, pss_cons (ps_if (PW.pt (pw_or (pt_cmpR op_eq (pv 0) pe_str (nomark _)) (pw_or1 (pt_cmpR op_notIn_sign (pe_ix ix_str (pv 0) pe_int (fun _ _ => rfl)) (glob_str (by rfl) W.st) (by rfl))))) (pss_one (ps_ret pe_int)) pss_nil)
      (pss_cons (ps_set (i := 1) scNL.nd rfl (.inl rfl) pe_int)
      (pss_cons (ps_while PassesOwn.never (PW.pt (pw_and (pt_cmpR op_lt (pv 1) (pe_callB call_len (by rfl) W.len PySem.boot_len (pa_cons (pv 0) pa_nil)) (nomark _))
          (pw_and1 (pt_cmpR op_in_sign (pe_ix ix_str (pv 0) (pv 1) (fun _ _ => rfl)) (glob_str (by rfl) W.nm) (by rfl)))))
        (pss_one (ps_aug (i := 1) scNL.nd rfl (.inl rfl) pe_int ip_add)))
      (pss_one (ps_ret (pv 1))))), ?_⟩
    obtain ⟨x, rfl, hx, k⟩ := h
    have hz := big_line hx
    by_cases h0 : x = ("" : Str)
    · subst h0
      exact ⟨_, rfl, rfl, _, rfl, if_yes (by simp) (k H (Same.refl H))⟩
    · obtain ⟨c, r, hl⟩ : ∃ c r, cs x = c :: r := by
        cases e : cs x with
        | nil => exact absurd (cs_nil e) h0
        | cons c r => exact ⟨c, r, rfl⟩
      have k' : ∀ n, nameLen (c :: r) = n → Q (.int n) H := fun n e => by
        have z : Q (.int (nameLen (cs x))) H := k H (Same.refl H)
        rw [hl, e] at z
        exact z
      have ac : atI (cs x) 0 = some c := atI_nat (j := 0) (by rw [hl]; rfl)
      refine ⟨_, rfl, rfl, _, rfl, if_no (by simpa using h0) ⟨_, rfl, x, 0, c, rfl, rfl, hz, ac, c, startS, rfl, rfl, _, rfl, ?_⟩⟩
      by_cases hc : c ∈ cs startS
      · refine if_no (by simpa using hc) ?_
        have hnl : nameLen (c :: r) = 1 + (r.takeWhile fun d => decide (d ∈ cs nameS)).length := if_pos hc
        have lx : x.length = r.length + 1 := by
          rw [len_cs, hl]
          rfl
        refine while_by (fun σ H' => ∃ j : Nat, σ = [some (.str x), some (.int (1 + (j : Int)))] ∧ H' = H ∧ j ≤ (r.takeWhile fun d => decide (d ∈ cs nameS)).length) (fun σ H' => match σ with
            | [_, some (.int i)] => x.length - i.toNat
            | _ => 0) ⟨0, rfl, rfl, Nat.zero_le _⟩ ?_ ?_
        · rintro σ H' ⟨j, rfl, rfl, hj⟩
          have jl := Nat.le_trans hj (tw_le r)
          refine ⟨_, rfl, _, rfl, .str x, x.length, rfl, ⟨hz, rfl⟩, _, _, rfl, rfl, _, rfl, ?_⟩
          by_cases hlt : j < r.length
          · obtain ⟨d, hd⟩ : ∃ d, r[j]? = some d := ⟨_, List.getElem?_eq_getElem hlt⟩
            have ad : atI (cs x) (1 + (j : Int)) = some d := by
              have z : (cs x)[j + 1]? = some d := by
                rw [hl]
                simpa using hd
              have y := atI_nat z
              rw [show ((j + 1 : Nat) : Int) = 1 + (j : Int) by omega] at y
              exact y
            refine if_yes (by simp; omega) ⟨_, rfl, _, rfl, x, _, d, rfl, rfl, hz, ad, d, nameS, rfl, rfl, _, rfl, ?_⟩
            by_cases hn : d ∈ cs nameS
            · refine if_yes (by simpa using hn) ⟨_, rfl, _, _, rfl, rfl, ⟨j + 1, ?_, rfl, tw_on r j d hd hj (by simpa using hn)⟩, ?_⟩
              · show [some (V.str x), some (V.int (1 + (j : Int) + 1))] = [some (V.str x), some (V.int (1 + ((j + 1 : Nat) : Int)))]
                rw [show (1 + (j : Int) + 1) = 1 + ((j + 1 : Nat) : Int) by omega]
              · show x.length - (1 + (j : Int) + 1).toNat < x.length - (1 + (j : Int)).toNat
                omega
            · refine if_no (by simpa using hn) ⟨_, rfl, ?_⟩
              refine k' _ ?_
              have e := tw_off (p := fun d => decide (d ∈ cs nameS)) r j hj (fun c' hc' => by
                rw [hd] at hc'
                obtain rfl := Option.some.inj hc'
                simpa using hn)
              rw [hnl, ← e] <;> omega
          · refine if_no (by simp; omega) (if_no rfl ⟨_, rfl, ?_⟩)
            refine k' _ ?_
            have e := tw_off (p := fun d => decide (d ∈ cs nameS)) r j hj (fun c' hc' => by
              rw [List.getElem?_eq_none (by omega)] at hc'
              cases hc')
            rw [hnl, ← e] <;> omega
        · intro σ H' Q1 Q2 hq h
          obtain ⟨v, e1, v2, e2, y, n, e3, ln, i, j, e4, e5, b, e6, z⟩ := h
          refine ⟨v, e1, v2, e2, y, n, e3, ln, i, j, e4, e5, b, e6, ?_⟩
          cases b with
          | false => exact hq _ _ z
          | true =>
            obtain ⟨a1, a2, a3, a4, a5, a6, a7, a8, a9, b1, b2, b3, b4, b5, b6, b7, b8, z⟩ := z
            exact ⟨a1, a2, a3, a4, a5, a6, a7, a8, a9, b1, b2, b3, b4, b5, b6, b7, b8, hq _ _ z⟩
      · refine if_yes (by simpa using hc) ?_
        exact k' 0 (if_neg hc)
theorem cut_one (x : Str) (n : Nat) : cutS x (some (n : Int)) (some ((n : Int) + 1)) = ("=" : Str) ↔ (cs x)[n]? = some 61 := by
  have h1 : HT.sIx x.length 0 (some (n : Int)) = min n x.length := HT.sIx_nat ..
  have h2 : HT.sIx x.length x.length (some ((n : Int) + 1)) = min (n + 1) x.length := HT.sIx_nat x.length x.length (n + 1)
  have hl := len_cs x
  have hq : ("=" : Str) = ⟨#[61]⟩ := by decide +kernel
  unfold cutS
  rw [h1, h2, hq]
  have key : ((cs x).drop (min n x.length)).take (min (n + 1) x.length - min n x.length) = [61] ↔ (cs x)[n]? = some 61 := by
    by_cases hn : n < (cs x).length
    · have e1 : min n x.length = n := by omega
      have e2 : min (n + 1) x.length - n = 1 := by omega
      rw [e1, e2, List.drop_eq_getElem_cons hn, List.getElem?_eq_getElem hn]
      simp
    · have e1 : min n x.length = x.length := by omega
      rw [e1, List.drop_eq_nil_of_le (by omega), List.getElem?_eq_none (by omega)]
      simp
  rw [← key]
  constructor
  · intro z
    have y := congrArg (fun s : Str => s.cps.toList) z
    simpa using y
  · intro z
    rw [z]
theorem ok_in {f fN : Addr} {fd fdN : FuncData} (F : Fun K "is_name" "is_name" sIN f fd) (W : Wrt mg) (FN : Fun K "name_length" "name_length" sNL fN fdN) (gN : mg "name_length" = some (.ref fN)) (bN : Binds K fdN ["text"] []) :
    FnOk P w K mg base CX0 2 f fd ["text"] (spTxt fun x => .bl (isNameB (cs x))) := by
  have GN : FnOk P w K mg base CX0 1 fN fdN ["text"] (spTxt fun x => .int (nameLen (cs x))) := ok_nl FN W
  refine F.ok scIN (fun vs H Q E h => ?_) (fun cdv A outer s H vs Q E hr h => ?_)
  · obtain ⟨x, rfl, _⟩ := h
    rfl
  · refine ⟨_, pss_one (ps_ret (pe_and (pe_cmpR op_ne (pv 0) pe_str (nomark _)) (pe_one (pe_cmpR op_eq (pe_call GN hr rfl gN FN.kp bN .nil pass0 (pa_cons (pv 0) pa_nil))
        (pe_callB call_len (by rfl) W.len PySem.boot_len (pa_cons (pv 0) pa_nil)) (nomark _))))), ?_⟩
    obtain ⟨x, rfl, hx, k⟩ := h
    have hz := big_line hx
    refine ⟨_, rfl, rfl, _, rfl, ?_⟩
    have done : ∀ b H', isNameB (cs x) = b → Same H H' → Q (.bl b) H' := fun b H' e s => by
      have z : Q (.bl (isNameB (cs x))) H' := k H' s
      rw [e] at z
      exact z
    by_cases h0 : x = ("" : Str)
    · subst h0
      exact if_no (by simp) (done false H (by decide +kernel) (Same.refl H))
    · refine if_yes (by simpa using h0) ⟨_, rfl, x, rfl, hx, fun H1 s1 => ⟨_, rfl, .str x, x.length, rfl, ⟨hz, rfl⟩, rfl, ?_⟩⟩
      refine done _ H1 ?_ s1
      have ne : (cs x).isEmpty = false := by
        cases e : cs x with
        | nil => exact absurd (cs_nil e) h0
        | cons c r => rfl
      unfold isNameB
      rw [ne, len_cs x]
      show (!false && nameLen (cs x) == (cs x).length) = decide (V.int (nameLen (cs x) : Int) = V.int ((cs x).length : Int))
      by_cases q : nameLen (cs x) = (cs x).length
      · rw [q, decide_eq_true rfl]
        simp
      · have q2 : ¬ ((nameLen (cs x) : Int) = ((cs x).length : Int)) := by omega
        rw [beq_eq_false_iff_ne.mpr q, decide_eq_false (fun z => q2 (V.int.inj z))]
        rfl
theorem ok_ib {f : Addr} {fd : FuncData} (F : Fun K "is_bare" "is_bare" sIB f fd) (W : Wrt mg) : FnOk P w K mg base CX0 1 f fd ["text"] (spTxt fun x => .bl (isBareB (cs x))) := by
  refine F.ok scIB (fun vs H Q E h => ?_) (fun cdv A outer s H vs Q E hr h => ?_)
  · obtain ⟨x, rfl, _⟩ := h
    rfl
  · refine ⟨_, pss_one (ps_ret (pe_and (pe_cmpR op_ne (pv 0) pe_str (nomark _)) (pe_one (pe_callB (cr_all rfl) (by rfl) W.all (by decide +kernel) (pa_cons
        (pe_lc (own := [("sign", 1)]) (g := gName 1) (tt := tYes) rfl scIB.nd (pi_str (pv 0)) (blkOk_by (N := ["text", "sign"]) (sc := defScope sIB) (by decide +kernel))
          (fun _ _ _ _ _ => pg_name (i := 1) scIB.nd rfl (Or.inl rfl)) (fun _ _ _ _ _ => pts_nil) (fun _ _ _ _ _ => pe_cmpR op_in_sign (pv 1) (glob_str (by rfl) W.br) (by rfl))) pa_nil))))), ?_⟩
    obtain ⟨x, rfl, hx, k⟩ := h
    have hz := big_line hx
    refine ⟨_, rfl, rfl, _, rfl, ?_⟩
    have done : ∀ b H', isBareB (cs x) = b → Same H H' → Q (.bl b) H' := fun b H' e s => by
      have z : Q (.bl (isBareB (cs x))) H' := k H' s
      rw [e] at z
      exact z
    by_cases h0 : x = ("" : Str)
    · subst h0
      exact if_no (by simp) (done false H (by decide +kernel) (Same.refl H))
    · refine if_yes (by simpa using h0) ⟨_, rfl, x, rfl, fun D hD => lc_it walk_str (fun i H' => H' = L2.upd H D (.lst (((cs x).take i).map fun d => V.bl (decide (d ∈ cs bareS))))) (by simp) (fun _ _ _ _ => trivial) (fun i v H' H2 hi e y => ?_) (fun H' e => ?_)⟩
      · obtain ⟨rfl, c, hc, rfl⟩ := y
        subst e
        have hc' : (cs x)[i]? = some c := by simpa using hc
        refine ⟨rfl, _, rfl, c, bareS, rfl, rfl, _, upd_same, ?_, ?_⟩
        · rw [List.length_map, List.length_take]
          have := len_cs x
          rw [sizeLine_eq] at hz ⊢
          unfold big at hx
          omega
        · rw [upd_upd, take_snoc hc', List.map_append]
          rfl
      · subst e
        have e1 : (cs x).take x.cps.size = cs x := List.take_of_length_le (by simp)
        rw [e1]
        refine ⟨D, (cs x).map fun d => decide (d ∈ cs bareS), rfl, SqL.of (by rw [upd_same, List.map_map]; rfl), ?_⟩
        refine done _ _ ?_ (same_upd hD)
        have ne : (cs x).isEmpty = false := by
          cases e : cs x with
          | nil => exact absurd (cs_nil e) h0
          | cons c r => rfl
        unfold isBareB
        rw [ne, List.all_map]
        simp
theorem ok_bs {f fN : Addr} {fd fdN : FuncData} (F : Fun K "begins_set" "begins_set" sBS f fd) (W : Wrt mg) (FN : Fun K "name_length" "name_length" sNL fN fdN) (gN : mg "name_length" = some (.ref fN)) (bN : Binds K fdN ["text"] []) :
    FnOk P w K mg base CX0 2 f fd ["text"] (spTxt fun x => .bl (beginsB (cs x))) := by
  have GN : FnOk P w K mg base CX0 1 fN fdN ["text"] (spTxt fun x => .int (nameLen (cs x))) := ok_nl FN W
  refine F.ok scBS (fun vs H Q E h => ?_) (fun cdv A outer s H vs Q E hr h => ?_)
  · obtain ⟨x, rfl, _⟩ := h
    rfl
  · refine ⟨_, pss_cons (ps_set (i := 1) scBS.nd rfl (.inl rfl) (pe_call GN hr rfl gN FN.kp bN .nil pass0 (pa_cons (pv 0) pa_nil)))
      (pss_one (ps_ret (pe_and (pe_cmpR op_gt (pv 1) pe_int (nomark _)) (pe_one (pe_cmpR op_eq (pe_slice sl_str (pv 0) (po_some (pv 1)) (po_some (pe_op op_add (pv 1) pe_int))) pe_str (nomark _)))))), ?_⟩
    obtain ⟨x, rfl, hx, k⟩ := h
    have hz := big_line hx
    refine ⟨_, rfl, x, rfl, hx, fun H1 s1 => ⟨_, rfl, _, _, rfl, rfl, _, rfl, ?_⟩⟩
    have done : ∀ b, beginsB (cs x) = b → Q (.bl b) H1 := fun b e => by
      have z : Q (.bl (beginsB (cs x))) H1 := k H1 s1
      rw [e] at z
      exact z
    by_cases h0 : 0 < nameLen (cs x)
    · have h0' : (0 : Int) < (nameLen (cs x) : Int) := by omega
      refine if_yes (by simpa using h0) ⟨_, rfl, _, rfl, _, rfl, _, rfl, _, _, rfl, rfl, _, rfl, x, rfl, hz, rfl, ?_⟩
      refine done _ ?_
      unfold beginsB
      rw [decide_eq_true h0, Bool.true_and]
      have cut := cut_one x (nameLen (cs x))
      show ((cs x)[nameLen (cs x)]? == some 61) = decide (V.str (cutS x (some (nameLen (cs x) : Int)) (some ((nameLen (cs x) : Int) + 1))) = V.str "=")
      by_cases q : (cs x)[nameLen (cs x)]? = some 61
      · rw [decide_eq_true (congrArg V.str (cut.mpr q)), q]
        rfl
      · rw [decide_eq_false (fun z => q (cut.mp (V.str.inj z))), beq_eq_false_iff_ne.mpr q]
    · refine if_no (by simpa using h0) (done false ?_)
      unfold beginsB
      rw [decide_eq_false h0]
      rfl
end
end Qb
end PySem
namespace PySem
namespace Qb
open PySem.W PySem.Calls PyProof.Rows L2
/-- an expression that is never reached -/
theorem pe_never {X : Cx} {e : Expr} : PE X e (fun _ _ _ => False) := ⟨fun _ _ _ _ _ _ h => h.elim⟩
theorem sqT_same {K : Frag} {H H' : Hp} {a : Addr} {xs : List V} (s : Same H H') (h : SqT K H a xs) : SqT K H' a xs := by
  rcases h with (h | ⟨o, h⟩) | h
  · exact .inl (.inl (s _ _ h))
  · exact .inl (.inr ⟨o, s _ _ h⟩)
  · exact .inr h
theorem dp_same {K : Frag} {H H' : Hp} (s : Same H H') : ∀ {d : PyData} {v : V}, Dp K H v d → Dp K H' v d := by
  intro d v h
  exact Dp.rec (motive_1 := fun v d _ => Dp K H' v d) (motive_2 := fun vs ds _ => DpAll K H' vs ds) .non .bl .int .str (fun h1 _ ih => .lst (s.seq h1) ih) (fun h1 _ ih => .tup (sqT_same s h1) ih) .nil (fun _ _ a b => .cons a b) h
theorem dpAll_same {K : Frag} {H H' : Hp} (s : Same H H') : ∀ {ds : List PyData} {vs : List V}, DpAll K H vs ds → DpAll K H' vs ds
  | [], _, .nil => .nil
  | _ :: _, _, .cons h t => .cons (dp_same s h) (dpAll_same s t)
theorem dpLen {K : Frag} {H : Hp} : ∀ {vs : List V} {ds : List PyData}, DpAll K H vs ds → vs.length = ds.length
  | _, _, .nil => rfl
  | _, _, .cons _ t => congrArg Nat.succ (dpLen t)
theorem dpAt {K : Frag} {H : Hp} : ∀ {vs : List V} {ds : List PyData} {i : Nat} {d : PyData}, DpAll K H vs ds → ds[i]? = some d → ∃ v, vs[i]? = some v ∧ Dp K H v d
  | _, _, _, _, .nil, e => by cases e
  | _, _, 0, _, .cons h _, e => by
    obtain rfl := Option.some.inj e
    exact ⟨_, rfl, h⟩
  | _, _, i + 1, _, .cons _ t, e => dpAt (i := i) t e
theorem dpAt' {K : Frag} {H : Hp} : ∀ {vs : List V} {ds : List PyData} {i : Nat} {v : V}, DpAll K H vs ds → vs[i]? = some v → ∃ d, ds[i]? = some d ∧ Dp K H v d
  | _, _, _, _, .nil, e => by cases e
  | _, _, 0, _, .cons h _, e => by
    obtain rfl := Option.some.inj e
    exact ⟨_, rfl, h⟩
  | _, _, i + 1, _, .cons _ t, e => dpAt' (i := i) t e
theorem pt_never {X : Cx} {e : Expr} : PT X e (fun _ _ _ => False) := ⟨fun _ _ _ _ _ _ h => h.elim⟩
/-- pieces as they are drawn here -/
inductive Pc where
  | bare (x : Str)
  | held (x : Str)
  | wide0
  | nam
def Pc.d : Pc → PyData
  | .bare x => .tuple [.str "bare", .str x]
  | .held x => .tuple [.str "held", .str x]
  | .wide0 => .tuple [.str "wide", .list []]
  | .nam => .tuple [.str "name", .str "x", .tuple []]
def Pc.ok : Pc → Bool
  | .bare x => isBareB (cs x)
  | .held x => !decide (39 ∈ cs x)
  | .wide0 => true
  | .nam => true
def Pc.small : Pc → Prop
  | .bare x => x.length ≤ big
  | .held x => x.length ≤ big
  | _ => True
def Pc.isBare : Pc → Bool
  | .bare _ => true
  | _ => false
/-- data in, a truth out -/
def spD (K : Frag) (D : PyData → Bool → Prop) : Sp := fun vs H Q _ => ∃ v d b, vs = [v] ∧ Dp K H v d ∧ D d b ∧ ∀ H', Same H H' → Q (.bl b) H'
abbrev sAP : Stmt := top 21
abbrev sAW : Stmt := top 22
abbrev sFW : Stmt := top 23
abbrev sIP : Stmt := top 24
abbrev sDol : Stmt := top 26
abbrev sDO : Stmt := top 27
abbrev sHN : Stmt := top 29
theorem scAP : FnScope ["pieces", "piece"] ["pieces"] (defScope sAP) := ⟨rfl, rfl, rfl, by decide +kernel, rfl, by decide +kernel, by decide +kernel⟩
theorem scAW : FnScope ["pieces", "piece"] ["pieces"] (defScope sAW) := ⟨rfl, rfl, rfl, by decide +kernel, rfl, by decide +kernel, by decide +kernel⟩
theorem scFW : FnScope ["word"] ["word"] (defScope sFW) := ⟨rfl, rfl, rfl, by decide +kernel, rfl, by decide +kernel, by decide +kernel⟩
theorem scIP : FnScope ["piece", "text", "sign", "pieces"] ["piece"] (defScope sIP) := ⟨rfl, rfl, rfl, by decide +kernel, rfl, by decide +kernel, by decide +kernel⟩
theorem scDol : FnScope ["piece", "name", "deed", "tree"] ["piece"] (defScope sDol) := ⟨rfl, rfl, rfl, by decide +kernel, rfl, by decide +kernel, by decide +kernel⟩
theorem scDO : FnScope ["name", "deed", "word", "mark"] ["name", "deed"] (defScope sDO) := ⟨rfl, rfl, rfl, by decide +kernel, rfl, by decide +kernel, by decide +kernel⟩
theorem scHN : FnScope ["pieces", "kind", "one", "other"] ["pieces", "kind"] (defScope sHN) := ⟨rfl, rfl, rfl, by decide +kernel, rfl, by decide +kernel, by decide +kernel⟩
/-- the first text of a tuple -/
def headK : PyData → Str
  | .tuple (.str k :: _) => k
  | _ => ""
def nbB (k : Str) (ds : List PyData) : Bool := (ds.zip (ds.drop 1)).any fun p => decide (headK p.1 = k) && decide (headK p.2 = k)
def spNb (K : Frag) : Sp := fun vs H Q _ => ∃ v k ds, vs = [v, .str k] ∧ Dp K H v (.list ds) ∧ ds.length ≤ 1000 ∧ (∀ d ∈ ds, ∃ y r, d = .tuple (.str y :: r)) ∧ ∀ H', Same H H' → Q (.bl (nbB k ds)) H'
/-- a deed on a name here: none -/
def spDO (K : Frag) : Sp := fun vs H Q _ => ∃ n v, vs = [n, v] ∧ Dp K H v (.tuple []) ∧ ∀ H', Same H H' → Q (.bl true) H'
section
variable {P : Program} {w : World} {K : Frag} {mg : Str → Option Value} {base : Heap}
theorem dp_tup {H : Hp} {v : V} {ds : List PyData} (h : Dp K H v (.tuple ds)) : ∃ a xs, v = .ref a ∧ SqT K H a xs ∧ DpAll K H xs ds := by
  cases h with
  | tup h1 h2 => exact ⟨_, _, rfl, h1, h2⟩
theorem dp_lst {H : Hp} {v : V} {ds : List PyData} (h : Dp K H v (.list ds)) : ∃ a xs, v = .ref a ∧ SqL K H a xs ∧ DpAll K H xs ds := by
  cases h with
  | lst h1 h2 => exact ⟨_, _, rfl, h1, h2⟩
theorem dp_str {H : Hp} {v : V} {x : Str} (h : Dp K H v (.str x)) : v = .str x := by
  cases h
  rfl
theorem ok_do {f : Addr} {fd : FuncData} (F : Fun K "is_deed_on" "is_deed_on" sDO f fd) : FnOk P w K mg base CX0 1 f fd ["name", "deed"] (spDO K) := by
  refine F.ok scDO (fun vs H Q E h => ?_) (fun cdv A outer s H vs Q E hr h => ?_)
  · obtain ⟨n, v, rfl, _⟩ := h
    rfl
  · refine ⟨_, pss_cons (ps_if (PW.pt (pw_or (pt_cmpR (op_eqD hr.units) (pv 1) (pe_tup pa_nil) (nomark _)) (pw_or1 pt_never))) (pss_one (ps_ret pe_bl)) pss_nil)
      (pss_cons ps_never (pss_cons ps_never (pss_one ps_never))), ?_⟩
    obtain ⟨n, v, rfl, hd, k⟩ := h
    refine ⟨_, rfl, (by decide : 0 ≤ sizeLine), fun p np => ?_⟩
    have s1 := same_upd (o := .tup []) np
    exact ⟨.tuple [], .tuple [], dp_same s1 hd, .tup (SqT.of upd_same) .nil, by decide, by decide, _, rfl, if_yes (by decide) (if_yes rfl (k _ s1))⟩
theorem cut_tail (xs : List V) : cutV xs (some 1) none = xs.drop 1 := by
  have h1 : HT.sIx xs.length 0 (some (1 : Int)) = min 1 xs.length := HT.sIx_nat xs.length 0 1
  unfold cutV
  rw [h1, HT.sIx_none]
  cases xs with
  | nil => rfl
  | cons x xs =>
    have e : min 1 (x :: xs).length = 1 := by simp
    rw [e]
    exact List.take_of_length_le (by simp)
theorem head_read {H : Hp} {x : V} {y : Str} {r : List PyData} (h : Dp K H x (.tuple (.str y :: r))) : ∃ b z, x = .ref b ∧ SqT K H b (.str y :: z) := by
  obtain ⟨b, zs, rfl, q, all⟩ := dp_tup h
  cases all with
  | cons h1 h2 =>
    obtain rfl := dp_str h1
    exact ⟨b, _, rfl, q⟩
theorem ok_hn {f : Addr} {fd : FuncData} (F : Fun K "has_neighbours" "has_neighbours" sHN f fd) (W : Wrt mg) : FnOk P w K mg base CX0 1 f fd ["pieces", "kind"] (spNb K) := by
  refine F.ok scHN (fun vs H Q E h => ?_) (fun cdv A outer s H vs Q E hr h => ?_)
  · obtain ⟨v, k, ds, rfl, _⟩ := h
    rfl
  · refine ⟨_, pss_one (ps_ret (pe_callB (cr_any rfl) (by rfl) W.any (by decide +kernel) (pa_cons
        (pe_lc (te := tAndV (tOp rEq (tOp (rIxT K) (tVar 2) (tC (.int 0))) (tVar 1)) (tOp rEq (tOp (rIxT K) (tVar 3) (tC (.int 0))) (tVar 1))) (own := [("one", 2), ("other", 3)]) (g := gTup K 2 (gCons (gName 2) (gCons (gName 3) gNil))) (tt := tYes) rfl scHN.nd (pi_zip (by rfl) W.zip (pa_cons (pv 0) (pa_cons (pe_slice sl_list (pv 0) (po_some pe_int) po_none) pa_nil)))
          (blkOk_by (N := ["pieces", "kind", "one", "other"]) (sc := defScope sHN) (by decide +kernel))
          (fun _ _ _ _ _ => pg_tup rfl (pgs_cons (pg_name (i := 2) scHN.nd rfl (Or.inl rfl)) (pgs_cons (pg_name (i := 3) scHN.nd rfl (Or.inl rfl)) pgs_nil))) (fun _ _ _ _ _ => pts_nil)
          (fun _ _ _ _ _ => pe_and (pe_cmpR op_eq (pe_ix ix_tup (pv 2) pe_int (fun _ _ => rfl)) (pv 1) (nomark _)) (pe_one (pe_cmpR op_eq (pe_ix ix_tup (pv 3) pe_int (fun _ _ => rfl)) (pv 1) (nomark _))))) pa_nil))), ?_⟩
    obtain ⟨v, k, ds, rfl, hd, hl, hk, kk⟩ := h
    obtain ⟨a, xs, rfl, hq, hxs⟩ := dp_lst hd
    have lx := dpLen hxs
    refine ⟨_, rfl, _, rfl, _, rfl, a, xs, rfl, hq, fun p np => ?_⟩
    have cut : cutV xs (some 1) none = xs.drop 1 := cut_tail xs
    have s1 := same_upd (o := .lst (xs.drop 1)) np
    rw [cut]
    have hmin : min xs.length (xs.drop 1).length = (ds.zip (ds.drop 1)).length := by
      rw [List.length_zip, List.length_drop, List.length_drop, lx]
    refine ⟨a, p, xs, xs.drop 1, rfl, s1.seq hq, SqL.of upd_same, fun D hD => lc_it (walk_zip (n := (ds.zip (ds.drop 1)).length) hmin.symm)
      (fun i H' => Same (L2.upd H p (.lst (xs.drop 1))) H' ∧ H' D = some (.lst (((ds.zip (ds.drop 1)).take i).map fun q => V.bl (decide (headK q.1 = k) && decide (headK q.2 = k)))))
      ⟨same_upd hD, upd_same⟩ (fun i H' _ e => ⟨e.1.seq (s1.seq hq), e.1.seq (SqL.of upd_same)⟩) (fun i v H' H2 hi e y => ?_) (fun H' e => ?_)⟩
    · obtain ⟨sm, hD'⟩ := e
      obtain ⟨T, x1, x2, rfl, nT, rfl, h1, h2⟩ := y
      obtain ⟨q, hq2⟩ : ∃ q, (ds.zip (ds.drop 1))[i]? = some q := ⟨_, List.getElem?_eq_getElem hi⟩
      obtain ⟨d1, d2⟩ := q
      obtain ⟨hd1, hd2⟩ : ds[i]? = some d1 ∧ (ds.drop 1)[i]? = some d2 := by
        rw [List.getElem?_zip_eq_some] at hq2
        exact hq2
      have sT := sm.trans (same_upd (o := .tup [x1, x2]) nT)
      have sA := s1.trans sT
      have hd2' : ds[1 + i]? = some d2 := by rw [← List.getElem?_drop]; exact hd2
      have h2' : xs[1 + i]? = some x2 := by rw [← List.getElem?_drop]; exact h2
      obtain ⟨e1, he1, p1⟩ := dpAt' hxs h1
      obtain ⟨e2, he2, p2⟩ := dpAt' hxs h2'
      rw [hd1] at he1
      obtain rfl := Option.some.inj he1
      rw [hd2'] at he2
      obtain rfl := Option.some.inj he2
      obtain ⟨y1, r1, rfl⟩ := hk d1 (List.mem_of_getElem? hd1)
      obtain ⟨y2, r2, rfl⟩ := hk d2 (List.mem_of_getElem? hd2')
      obtain ⟨b1, z1, rfl, q1⟩ := head_read (dp_same sA p1)
      obtain ⟨b2, z2, rfl, q2⟩ := head_read (dp_same sA p2)
      have hDT : D ≠ T := ne_of_none hD' nT
      have fin : ∀ b, (decide (y1 = k) && decide (y2 = k)) = b → ∃ acc, (L2.upd H' T (.tup [V.ref b1, V.ref b2])) D = some (.lst acc) ∧ acc.length < sizeLine ∧
          (Same (L2.upd H p (.lst (xs.drop 1))) (L2.upd (L2.upd H' T (.tup [V.ref b1, V.ref b2])) D (.lst (acc ++ [V.bl b]))) ∧
            (L2.upd (L2.upd H' T (.tup [V.ref b1, V.ref b2])) D (.lst (acc ++ [V.bl b]))) D = some (.lst (((ds.zip (ds.drop 1)).take (i + 1)).map fun q => V.bl (decide (headK q.1 = k) && decide (headK q.2 = k))))) := fun b eb => by
        refine ⟨_, by rw [upd_ne hDT]; exact hD', ?_, same_upd2 sT hD, ?_⟩
        · rw [List.length_map, List.length_take, sizeLine_eq]
          have : (ds.zip (ds.drop 1)).length ≤ ds.length := by
            rw [List.length_zip]
            omega
          omega
        · rw [upd_same, take_snoc hq2, List.map_append]
          show _ = some (HO.lst (_ ++ [V.bl (decide (y1 = k) && decide (y2 = k))]))
          rw [eb]
      refine ⟨T, [V.ref b1, V.ref b2], rfl, SqT.of upd_same, rfl, _, _, rfl, _, _, rfl, rfl, rfl, ?_⟩
      refine ⟨_, rfl, b1, _, 0, _, rfl, rfl, q1, atI_nat (j := 0) rfl, _, rfl, rfl, _, rfl, if_by (fun e => ?_) (fun e => ?_)⟩
      · have e' : y1 = k := by simpa using e
        refine ⟨_, rfl, b2, _, 0, _, rfl, rfl, q2, atI_nat (j := 0) rfl, _, rfl, rfl, ?_⟩
        refine fin _ ?_
        rw [decide_eq_true e', Bool.true_and]
        by_cases e2 : y2 = k
        · rw [decide_eq_true e2, decide_eq_true (congrArg V.str e2)]
        · rw [decide_eq_false e2, decide_eq_false (fun z => e2 (V.str.inj z))]
      · have e' : ¬ y1 = k := by simpa using e
        exact fin false (by rw [decide_eq_false e', Bool.false_and])
    · obtain ⟨sm, hD'⟩ := e
      rw [List.take_length] at hD'
      refine ⟨D, (ds.zip (ds.drop 1)).map fun q => decide (headK q.1 = k) && decide (headK q.2 = k), rfl, SqL.of (by rw [hD', List.map_map]; rfl), ?_⟩
      have z := kk H' (s1.trans sm)
      have e : nbB k ds = ((ds.zip (ds.drop 1)).map fun q => decide (headK q.1 = k) && decide (headK q.2 = k)).any id := by
        rw [List.any_map]
        rfl
      rw [e] at z
      exact z
end
end Qb
end PySem
namespace PySem
namespace Qb
open PySem.W PySem.Calls PyProof.Rows L2
def tNoE : TE := fun _ _ _ => False
theorem pe_no {X : Cx} {e : Expr} : PE X e tNoE := ⟨fun _ _ _ _ _ _ h => h.elim⟩
def rNo : PatR := fun _ _ _ => False
theorem pcs_never {X : Cx} {cases : List MatchCase} : PCs X cases [([], rNo, fun _ _ _ => False)] := ⟨fun _ _ _ _ _ _ _ _ _ _ h => h.elim⟩
def Hit (r : PatR) (y : Str) : Prop := ∀ H Q, Q (some []) → r (.str y) H Q
def Miss (r : PatR) (y : Str) : Prop := ∀ H Q, Q none → r (.str y) H Q
theorem hit_lit {c : Str} : Hit (rLit c) c := fun H Q h => ⟨c, rfl, by rw [if_pos rfl]; exact h⟩
theorem miss_lit {c y : Str} (ne : y ≠ c) : Miss (rLit c) y := fun H Q h => ⟨y, rfl, by rw [if_neg ne]; exact h⟩
theorem hit_or {r : PatR} {rs : List PatR} {y : Str} (h : Hit r y) : Hit (rOr (r :: rs)) y := fun H Q q => h H _ q
theorem hit_or2 {r : PatR} {rs : List PatR} {y : Str} (m : Miss r y) (h : Hit (rOr rs) y) : Hit (rOr (r :: rs)) y := fun H Q q => m H _ (h H Q q)
theorem miss_or {r : PatR} {rs : List PatR} {y : Str} (m : Miss r y) (h : Miss (rOr rs) y) : Miss (rOr (r :: rs)) y := fun H Q q => m H _ (h H Q q)
theorem miss_or0 {y : Str} : Miss (rOr []) y := fun H Q q => q
theorem each_caps {H : Hp} : ∀ {ys : List V} {Q : Option (List V) → Prop}, Q (some ys) → rEach (List.replicate ys.length rCap) ys H Q
  | [], _, h => h
  | y :: ys, Q, h => by
    show rEach (List.replicate ys.length rCap) ys H _
    exact each_caps (ys := ys) (Q := fun o' => match o' with | none => Q none | some more => Q (some ([y] ++ more))) h
theorem case_hit {K : Frag} {n : Nat} {r : PatR} {rs : List PatR} {is : List Nat} {t : TS} {rest : List (List Nat × PatR × TS)} {a : Addr} {c : Str} {ys : List V} {D : Ends} {σ : L2.St} {H : Hp} (hq : SqT K H a (.str c :: ys)) (hh : Hit r c) (h : t D (setAll σ is ys) H)
    (hr : rs = List.replicate ys.length rCap := by rfl) (hn : n = ys.length + 1 := by rfl) : tCases ((is, rSeq K n (r :: rs), t) :: rest) (.ref a) D σ H := by
  subst hr
  subst hn
  refine ⟨a, _, rfl, hq, fun ne => absurd rfl ne, fun _ => ?_⟩
  refine hh H _ ?_
  exact each_caps (Q := fun o' => match o' with | none => tCases rest (.ref a) D σ H | some more => t D (setAll σ is ([] ++ more)) H) h
theorem case_miss {K : Frag} {n : Nat} {r : PatR} {rs : List PatR} {is : List Nat} {t : TS} {rest : List (List Nat × PatR × TS)} {a : Addr} {c : Str} {ys : List V} {D : Ends} {σ : L2.St} {H : Hp} (hq : SqT K H a (.str c :: ys)) (hh : Miss r c ∨ ys.length + 1 ≠ n) (h : tCases rest (.ref a) D σ H) :
    tCases ((is, rSeq K n (r :: rs), t) :: rest) (.ref a) D σ H := by
  rcases hh with hh | ne
  · exact ⟨a, _, rfl, hq, fun _ => h, fun _ => hh H _ h⟩
  · exact ⟨a, _, rfl, hq, fun _ => h, fun e => absurd e ne⟩
theorem ml {c y : Str} {n m : Nat} (ne : y ≠ c := by decide +kernel) : Miss (rLit c) y ∨ n ≠ m := .inl (miss_lit ne)
/-- what a piece's tuple holds -/
theorem pc_two {K : Frag} {H : Hp} {v : V} {k : Str} {d : PyData} (h : Dp K H v (.tuple [.str k, d])) : ∃ a x, v = .ref a ∧ SqT K H a [.str k, x] ∧ Dp K H x d := by
  obtain ⟨a, xs, rfl, hq, all⟩ := dp_tup h
  cases all with
  | cons h1 t1 =>
    obtain rfl := dp_str h1
    cases t1 with
    | cons h2 t2 =>
      cases t2
      exact ⟨a, _, rfl, hq, h2⟩
theorem pc_three {K : Frag} {H : Hp} {v : V} {k : Str} {d e : PyData} (h : Dp K H v (.tuple [.str k, d, e])) : ∃ a x y, v = .ref a ∧ SqT K H a [.str k, x, y] ∧ Dp K H x d ∧ Dp K H y e := by
  obtain ⟨a, xs, rfl, hq, all⟩ := dp_tup h
  cases all with
  | cons h1 t1 =>
    obtain rfl := dp_str h1
    cases t1 with
    | cons h2 t2 =>
      cases t2 with
      | cons h3 t3 =>
        cases t3
        exact ⟨a, _, _, rfl, hq, h2, h3⟩
theorem pc_four {K : Frag} {H : Hp} {v : V} {k : Str} {d e f : PyData} (h : Dp K H v (.tuple [.str k, d, e, f])) : ∃ a x y z, v = .ref a ∧ SqT K H a [.str k, x, y, z] ∧ Dp K H x d ∧ Dp K H y e ∧ Dp K H z f := by
  obtain ⟨a, xs, rfl, hq, all⟩ := dp_tup h
  cases all with
  | cons h1 t1 =>
    obtain rfl := dp_str h1
    cases t1 with
    | cons h2 t2 =>
      cases t2 with
      | cons h3 t3 =>
        cases t3 with
        | cons h4 t4 =>
          cases t4
          exact ⟨a, _, _, _, rfl, hq, h2, h3, h4⟩
def spNam (K : Frag) : Sp := fun vs H Q _ => ∃ v, vs = [v] ∧ Dp K H v Pc.nam.d ∧ ∀ H', Same H H' → Q (.bl true) H'
def spNil (K : Frag) : Sp := fun vs H Q _ => ∃ v, vs = [v] ∧ Dp K H v (.list []) ∧ ∀ H', Same H H' → Q (.bl true) H'
def spPc (K : Frag) : Sp := fun vs H Q _ => ∃ v p, vs = [v] ∧ Dp K H v (Pc.d p) ∧ Pc.small p ∧ ∀ H', Same H H' → Q (.bl (Pc.ok p)) H'
section
variable {P : Program} {w : World} {K : Frag} {mg : Str → Option Value} {base : Heap}
theorem ok_dol {f fI fD : Addr} {fd fdI fdD : FuncData} (F : Fun K "is_dollar" "is_dollar" sDol f fd) (FI : Fun K "is_name" "is_name" sIN fI fdI) (gI : mg "is_name" = some (.ref fI)) (bI : Binds K fdI ["text"] [])
    (GI : FnOk P w K mg base CX0 2 fI fdI ["text"] (spTxt fun x => .bl (isNameB (cs x))))
    (FD : Fun K "is_deed_on" "is_deed_on" sDO fD fdD) (gD : mg "is_deed_on" = some (.ref fD)) (bD : Binds K fdD ["name", "deed"] []) :
    FnOk P w K mg base CX0 3 f fd ["piece"] (spNam K) := by
  have GD : FnOk P w K mg base CX0 1 fD fdD ["name", "deed"] (spDO K) := ok_do FD
  refine F.ok scDol (fun vs H Q E h => ?_) (fun cdv A outer s H vs Q E hr h => ?_)
  · obtain ⟨v, rfl, _⟩ := h
    rfl
  · refine ⟨_, pss_cons (ps_match (pv 0) (pcs_cons (is := [1, 2]) scDol.nd (pp_seq rfl (pps_cons pp_lit (pps_cons pp_cap (pps_cons pp_cap pps_nil)))) (.cons ⟨rfl, .inl rfl, .inr rfl⟩ (.cons ⟨rfl, .inl rfl, .inr rfl⟩ .nil))
        (pss_one (ps_ret (pe_and (pe_or (pe_call GI hr rfl gI FI.kp bI .nil pass0 (pa_cons (pv 1) pa_nil)) (pe_one pe_never)) (pe_one (pe_call GD (hr.mono (by decide)) rfl gD FD.kp bD .nil pass0 (pa_cons (pv 1) (pa_cons (pv 2) pa_nil)))))))
        pcs_never)) (pss_one ps_never), ?_⟩
    obtain ⟨v, rfl, hd, k⟩ := h
    obtain ⟨a, x, y, rfl, hq, h1, h2⟩ := pc_three hd
    obtain rfl := dp_str h1
    refine ⟨_, rfl, case_hit hq hit_lit ?_⟩
    refine ⟨_, rfl, _, rfl, by decide, fun H1 s1 => ⟨_, rfl, if_yes (by decide +kernel) ⟨_, rfl, if_yes rfl ⟨_, rfl, _, rfl, _, _, rfl, dp_same s1 h2, fun H2 s2 => ?_⟩⟩⟩⟩
    exact k _ (s1.trans s2)
theorem ok_aw {f fH : Addr} {fd fdH : FuncData} (F : Fun K "are_wide" "are_wide" sAW f fd) (W : Wrt mg) (FH : Fun K "has_neighbours" "has_neighbours" sHN fH fdH) (gH : mg "has_neighbours" = some (.ref fH)) (bH : Binds K fdH ["pieces", "kind"] []) :
    FnOk P w K mg base CX0 2 f fd ["pieces"] (spNil K) := by
  have GH : FnOk P w K mg base CX0 1 fH fdH ["pieces", "kind"] (spNb K) := ok_hn FH W
  refine F.ok scAW (fun vs H Q E h => ?_) (fun cdv A outer s H vs Q E hr h => ?_)
  · obtain ⟨v, rfl, _⟩ := h
    rfl
  · refine ⟨_, pss_one (ps_ret (pe_and (pe_callB (cr_all rfl) (by rfl) W.all (by decide +kernel) (pa_cons
        (pe_lc (own := [("piece", 1)]) (g := gName 1) (tt := tYes) rfl scAW.nd (pi_list (pv 0)) (blkOk_by (N := ["pieces", "piece"]) (sc := defScope sAW) (by decide +kernel))
          (fun _ _ _ _ _ => pg_name (i := 1) scAW.nd rfl (Or.inl rfl)) (fun _ _ _ _ _ => pts_nil) (fun _ _ _ _ _ => pe_no)) pa_nil))
        (pe_one (pe_not (pe_call GH hr rfl gH FH.kp bH .nil pass0 (pa_cons (pv 0) (pa_cons pe_str pa_nil))))))), ?_⟩
    obtain ⟨v, rfl, hd, k⟩ := h
    obtain ⟨a, xs, rfl, hq, all⟩ := dp_lst hd
    cases all
    refine ⟨_, rfl, a, rfl, ⟨_, hq⟩, fun D hD => lc_it (walk_list (xs := [])) (fun i H' => H' = L2.upd H D (.lst [])) rfl (fun i H' _ e => by subst e; exact (same_upd hD).seq hq) (fun i x H' H2 hi => absurd hi (by simp)) (fun H' e => ?_)⟩
    subst e
    have s1 := same_upd (o := .lst []) hD
    refine ⟨D, [], rfl, SqL.of upd_same, _, rfl, if_yes rfl ⟨_, rfl, _, _, [], rfl, dp_same s1 hd, by decide, by simp, fun H2 s2 => ⟨_, rfl, ?_⟩⟩⟩
    exact k _ (s1.trans s2)
theorem ok_ip {f fB fW fD : Addr} {fd fdB fdW fdD : FuncData} (F : Fun K "is_piece" "is_piece" sIP f fd) (FB : Fun K "is_bare" "is_bare" sIB fB fdB) (gB : mg "is_bare" = some (.ref fB)) (bB : Binds K fdB ["text"] []) (GB : FnOk P w K mg base CX0 1 fB fdB ["text"] (spTxt fun x => .bl (isBareB (cs x))))
    (FW : Fun K "are_wide" "are_wide" sAW fW fdW) (gW : mg "are_wide" = some (.ref fW)) (bW : Binds K fdW ["pieces"] []) (GW : FnOk P w K mg base CX0 2 fW fdW ["pieces"] (spNil K))
    (FD : Fun K "is_dollar" "is_dollar" sDol fD fdD) (gD : mg "is_dollar" = some (.ref fD)) (bD : Binds K fdD ["piece"] []) (GD : FnOk P w K mg base CX0 3 fD fdD ["piece"] (spNam K)) :
    FnOk P w K mg base CX0 4 f fd ["piece"] (spPc K) := by
  refine F.ok scIP (fun vs H Q E h => ?_) (fun cdv A outer s H vs Q E hr h => ?_)
  · obtain ⟨v, p, rfl, _⟩ := h
    rfl
  · refine ⟨_, pss_cons (ps_match (pv 0)
        (pcs_cons (is := [1]) scIP.nd (pp_seq rfl (pps_cons pp_lit (pps_cons pp_cap pps_nil))) (.cons ⟨rfl, .inl rfl, .inr rfl⟩ .nil)
          (pss_one (ps_ret (pe_call GB (hr.mono (by decide)) rfl gB FB.kp bB .nil pass0 (pa_cons (pv 1) pa_nil))))
        (pcs_cons (is := [1]) scIP.nd (pp_seq rfl (pps_cons pp_lit (pps_cons pp_cap pps_nil))) (.cons ⟨rfl, .inl rfl, .inr rfl⟩ .nil)
          (pss_one (ps_ret (pe_cmpR op_notIn_sign pe_str (pv 1) (by rfl))))
        (pcs_cons (is := [2]) scIP.nd (pp_seq rfl (pps_cons pp_lit (pps_cons pp_cap pps_nil))) (.cons ⟨rfl, .inl rfl, .inr rfl⟩ .nil)
          pss_never
        (pcs_cons (is := [3]) scIP.nd (pp_seq rfl (pps_cons pp_lit (pps_cons pp_cap pps_nil))) (.cons ⟨rfl, .inl rfl, .inr rfl⟩ .nil)
          (pss_one (ps_ret (pe_call GW (hr.mono (by decide)) rfl gW FW.kp bW .nil pass0 (pa_cons (pv 3) pa_nil))))
        pcs_nil))))) (pss_one (ps_ret (pe_call GD hr rfl gD FD.kp bD .nil pass0 (pa_cons (pv 0) pa_nil)))), ?_⟩
    obtain ⟨v, p, rfl, hd, hs, k⟩ := h
    cases p with
    | bare x =>
      obtain ⟨a, x', rfl, hq, h1⟩ := pc_two hd
      obtain rfl := dp_str h1
      exact ⟨_, rfl, case_hit hq hit_lit ⟨_, rfl, _, rfl, hs, k⟩⟩
    | held x =>
      obtain ⟨a, x', rfl, hq, h1⟩ := pc_two hd
      obtain rfl := dp_str h1
      refine ⟨_, rfl, case_miss hq ml (case_hit hq hit_lit ⟨_, rfl, 39, x, ?_, rfl, ?_⟩)⟩
      · exact congrArg V.str (by decide +kernel)
      · exact k _ (Same.refl H)
    | wide0 =>
      obtain ⟨a, x', rfl, hq, h1⟩ := pc_two hd
      exact ⟨_, rfl, case_miss hq ml (case_miss hq ml (case_miss hq ml (case_hit hq hit_lit ⟨_, rfl, _, rfl, h1, k⟩)))⟩
    | nam =>
      obtain ⟨a, x, y, rfl, hq, h1, h2⟩ := pc_three hd
      refine ⟨_, rfl, case_miss hq ml (case_miss hq ml (case_miss hq ml (case_miss hq ml ?_)))⟩
      exact ⟨_, rfl, _, rfl, hd, k⟩
end
end Qb
end PySem
namespace PySem
namespace Qb
open PySem.W PySem.Calls PyProof.Rows L2
/-! # words -/
/-- data that can be laid, no deeper than n -/
def Sh (n : Nat) (d : PyData) : Prop := d.canLay0 = true ∧ d.depth ≤ n
theorem sh_all {n : Nat} : ∀ {ds : List PyData}, (∀ d ∈ ds, Sh n d) → PyData.canLayAll0 ds = true ∧ PyData.depthAll ds ≤ n
  | [], _ => ⟨PyData.canLayAll0.eq_1, by rw [PyData.depthAll.eq_1]; exact Nat.zero_le _⟩
  | d :: ds, h => by
    have h1 := h d (.head _)
    have h2 := sh_all (n := n) (ds := ds) fun e m => h e (.tail _ m)
    exact ⟨by rw [PyData.canLayAll0.eq_2, h1.1, h2.1]; rfl, by rw [PyData.depthAll.eq_2]; exact Nat.max_le.mpr ⟨h1.2, h2.2⟩⟩
theorem sh_lst {n : Nat} {ds : List PyData} (h : ∀ d ∈ ds, Sh n d) : Sh (n + 1) (.list ds) := by
  have z := sh_all h
  exact ⟨by rw [PyData.canLay0.eq_5]; exact z.1, by rw [PyData.depth.eq_1]; omega⟩
theorem sh_tup {n : Nat} {ds : List PyData} (h : ∀ d ∈ ds, Sh n d) : Sh (n + 1) (.tuple ds) := by
  have z := sh_all h
  exact ⟨by rw [PyData.canLay0.eq_6]; exact z.1, by rw [PyData.depth.eq_2]; omega⟩
theorem sh_str {x : Str} (h : PyData.strOk x = true) : Sh 0 (.str x) := ⟨by rw [PyData.canLay0.eq_4]; exact h, Nat.le_of_eq rfl⟩
theorem sh_mono {n m : Nat} {d : PyData} (h : Sh n d) (l : n ≤ m) : Sh m d := ⟨h.1, Nat.le_trans h.2 l⟩
theorem sh_ok {n : Nat} {d : PyData} (h : Sh n d) (l : n ≤ 64 := by decide) : SeqAt.shaped d = true := by
  unfold SeqAt.shaped
  rw [h.1, decide_eq_true (Nat.le_trans h.2 l)]
  rfl
theorem eqv_nil (ds : List PyData) : PyData.eqv (.list ds) (.list []) = ds.isEmpty := by
  cases ds <;> rfl
/-- all of the answers of a walk -/
theorem lc_all {K : Frag} {a D : Addr} {xs : List V} {bs : List Bool} {H : Hp} {σ : L2.St} {vs : List Nat} {g : TG} {te : TE} {Qd : Hp → Prop} (hq : SqL K H a xs) (hD : H D = none) (hb : bs.length = xs.length) (hl : xs.length ≤ 1000)
    (turn : ∀ (i : Nat) (x : V) (b : Bool) (H' : Hp) (Q : VK), xs[i]? = some x → bs[i]? = some b → Same H H' → (∀ H4, Same H' H4 → Q (.bl b) H4) → g x (wipe σ vs) H' fun σ2 H2 => wipe σ2 vs = wipe σ vs ∧ te σ2 H2 Q)
    (hd : ∀ H', Same H H' → SqL K H' D (bs.map V.bl) → Qd H') :
    ∃ W : Nat → Nat → Hp → Prop, (∃ m, W 0 m (L2.upd H D (.lst []))) ∧ ∀ i m H, W i m H →
      ((Itl K a).stop i H ∧ Qd H) ∨ ((Itl K a).go i H ∧ ∃ Nx : Hp → Prop, (∀ H', Nx H' → ∃ m', m' < m ∧ W (i + 1) m' H') ∧ ∀ x H', (Itl K a).yld i H x H' → g x (wipe σ vs) H' fun σ2 H2 => wipe σ2 vs = wipe σ vs ∧ tYes σ2 H2 fun b H3 =>
        if b = true then te σ2 H3 fun y H4 => ∃ acc, H4 D = some (.lst acc) ∧ acc.length < sizeLine ∧ Nx (L2.upd H4 D (.lst (acc ++ [y]))) else Nx H3) := by
  refine lc_it (walk_list (xs := xs)) (fun i H' => Same H H' ∧ H' D = some (.lst ((bs.take i).map V.bl))) ⟨same_upd hD, upd_same⟩ (fun i H' _ e => e.1.seq hq) (fun i x H' H2 hi e y => ?_) (fun H' e => ?_)
  · obtain ⟨rfl, hx⟩ := y
    obtain ⟨s1, h1⟩ := e
    obtain ⟨b, hbi⟩ : ∃ b, bs[i]? = some b := ⟨_, List.getElem?_eq_getElem (by omega)⟩
    refine turn i x b H2 _ hx hbi s1 fun H4 s4 => ⟨_, s4 _ _ h1, ?_, same_upd2 (s1.trans s4) hD, ?_⟩
    · rw [List.length_map, List.length_take, sizeLine_eq]
      omega
    · rw [upd_same, take_snoc hbi, List.map_append]
      rfl
  · obtain ⟨s1, h1⟩ := e
    rw [← hb, List.take_length] at h1
    exact hd H' s1 (SqL.of h1)
def Pc.txt : Pc → Str
  | .bare x => x
  | .held x => x
  | _ => ""
def Pc.fit (p : Pc) : Prop := p.small ∧ PyData.strOk p.txt = true
def wd (ps : List Pc) : PyData := .list (ps.map Pc.d)
def Wfit (ps : List Pc) : Prop := ps.length ≤ 1000 ∧ ∀ p ∈ ps, p.fit
def piecesB (ps : List Pc) : Bool := ps.all Pc.ok && !nbB "bare" (ps.map Pc.d)
def fullB (ps : List Pc) : Bool := !ps.isEmpty && piecesB ps
theorem pc_head (p : Pc) : ∃ y r, p.d = .tuple (.str y :: r) := by
  cases p <;> exact ⟨_, _, rfl⟩
theorem sh_pc {p : Pc} (h : p.fit) : Sh 2 p.d := by
  have e : ∀ y : Str, PyData.strOk y = true → Sh 1 (.str y) := fun y z => sh_mono (sh_str z) (by decide)
  cases p with
  | bare x =>
    refine sh_tup fun d m => ?_
    rcases List.mem_cons.mp m with rfl | m
    · exact e _ (by decide +kernel)
    · rcases List.mem_singleton.mp m with rfl
      exact e _ h.2
  | held x =>
    refine sh_tup fun d m => ?_
    rcases List.mem_cons.mp m with rfl | m
    · exact e _ (by decide +kernel)
    · rcases List.mem_singleton.mp m with rfl
      exact e _ h.2
  | wide0 => exact ⟨by decide +kernel, by decide +kernel⟩
  | nam => exact ⟨by decide +kernel, by decide +kernel⟩
theorem sh_wd {ps : List Pc} (h : Wfit ps) : Sh 3 (wd ps) := sh_lst fun d m => by
  obtain ⟨p, hp, rfl⟩ := List.mem_map.mp m
  exact sh_pc (h.2 p hp)
def spW (K : Frag) (f : List Pc → Bool) : Sp := fun vs H Q _ => ∃ v ps, vs = [v] ∧ Dp K H v (wd ps) ∧ Wfit ps ∧ ∀ H', Same H H' → Q (.bl (f ps)) H'
abbrev sAWs : Stmt := top 42
abbrev sKW : Stmt := top 41
abbrev sFst : Stmt := top 40
abbrev sTu : Stmt := top 46
abbrev sDoo : Stmt := top 39
theorem scAWs : FnScope ["words", "word"] ["words"] (defScope sAWs) := ⟨rfl, rfl, rfl, by decide +kernel, rfl, by decide +kernel, by decide +kernel⟩
theorem scKW : FnScope ["word"] ["word"] (defScope sKW) := ⟨rfl, rfl, rfl, by decide +kernel, rfl, by decide +kernel, by decide +kernel⟩
theorem scFst : FnScope ["word", "sets"] ["word", "sets"] (defScope sFst) := ⟨rfl, rfl, rfl, by decide +kernel, rfl, by decide +kernel, by decide +kernel⟩
theorem scTu : FnScope ["turns", "number", "mark", "word"] ["turns"] (defScope sTu) := ⟨rfl, rfl, rfl, by decide +kernel, rfl, by decide +kernel, by decide +kernel⟩
theorem scDoo : FnScope ["sets", "words", "turns", "name", "word"] ["sets", "words", "turns"] (defScope sDoo) := ⟨rfl, rfl, rfl, by decide +kernel, rfl, by decide +kernel, by decide +kernel⟩
section
variable {P : Program} {w : World} {K : Frag} {mg : Str → Option Value} {base : Heap}
theorem ok_ap {f fI fH : Addr} {fd fdI fdH : FuncData} (F : Fun K "are_pieces" "are_pieces" sAP f fd) (W : Wrt mg) (FI : Fun K "is_piece" "is_piece" sIP fI fdI) (gI : mg "is_piece" = some (.ref fI)) (bI : Binds K fdI ["piece"] []) (GI : FnOk P w K mg base CX0 4 fI fdI ["piece"] (spPc K))
    (FH : Fun K "has_neighbours" "has_neighbours" sHN fH fdH) (gH : mg "has_neighbours" = some (.ref fH)) (bH : Binds K fdH ["pieces", "kind"] []) :
    FnOk P w K mg base CX0 5 f fd ["pieces"] (spW K piecesB) := by
  have GH : FnOk P w K mg base CX0 1 fH fdH ["pieces", "kind"] (spNb K) := ok_hn FH W
  refine F.ok scAP (fun vs H Q E h => ?_) (fun cdv A outer s H vs Q E hr h => ?_)
  · obtain ⟨v, ps, rfl, _⟩ := h
    rfl
  · refine ⟨_, pss_one (ps_ret (pe_and (pe_callB (cr_all rfl) (by rfl) W.all (by decide +kernel) (pa_cons
        (pe_lc (own := [("piece", 1)]) (g := gName 1) (tt := tYes) rfl scAP.nd (pi_list (pv 0)) (blkOk_by (N := ["pieces", "piece"]) (sc := defScope sAP) (by decide +kernel))
          (fun _ _ _ _ _ => pg_name (i := 1) scAP.nd rfl (Or.inl rfl)) (fun _ _ _ _ _ => pts_nil) (fun _ _ _ _ _ => pe_call GI hr rfl gI FI.kp bI .nil pass0 (pa_cons (pv 1) pa_nil))) pa_nil))
        (pe_one (pe_not (pe_call GH (hr.mono (by decide)) rfl gH FH.kp bH .nil pass0 (pa_cons (pv 0) (pa_cons pe_str pa_nil))))))), ?_⟩
    obtain ⟨v, ps, rfl, hd, hf, k⟩ := h
    obtain ⟨a, xs, rfl, hq, all⟩ := dp_lst hd
    have lx := dpLen all
    rw [List.length_map] at lx
    refine ⟨_, rfl, a, rfl, ⟨_, hq⟩, fun D hD => lc_all (bs := ps.map Pc.ok) hq hD (by rw [List.length_map, lx]) (by rw [lx]; exact hf.1) (fun i x b H' Q' hx hb s1 q => ?_) (fun H1 s1 q1 => ?_)⟩
    · obtain ⟨d, hdi, dp⟩ := dpAt' all hx
      rw [List.getElem?_map] at hdi hb
      cases ep : ps[i]? with
      | none => rw [ep] at hdi; cases hdi
      | some p =>
        rw [ep] at hdi hb
        obtain rfl := Option.some.inj hdi
        obtain rfl := Option.some.inj hb
        exact ⟨rfl, _, rfl, _, p, rfl, dp_same s1 dp, (hf.2 p (List.mem_of_getElem? ep)).1, q⟩
    · have e : (ps.map Pc.ok).all id = ps.all Pc.ok := by rw [List.all_map]; rfl
      refine ⟨D, _, rfl, q1, _, rfl, if_by (fun e1 => ⟨_, rfl, _, _, _, rfl, dp_same s1 hd, ?_, ?_, fun H2 s2 => ⟨_, rfl, ?_⟩⟩) (fun e1 => ?_)⟩
      · rw [List.length_map]; exact hf.1
      · intro d m
        obtain ⟨p, hp, rfl⟩ := List.mem_map.mp m
        exact pc_head p
      · have z := k _ (s1.trans s2)
        rw [show piecesB ps = !nbB "bare" (ps.map Pc.d) by unfold piecesB; rw [← e, e1]; rfl] at z
        exact z
      · have z := k _ s1
        rw [show piecesB ps = false by unfold piecesB; rw [← e, e1]; rfl] at z
        exact z
theorem ok_fw {f fA : Addr} {fd fdA : FuncData} (F : Fun K "is_full_word" "is_full_word" sFW f fd) (FA : Fun K "are_pieces" "are_pieces" sAP fA fdA) (gA : mg "are_pieces" = some (.ref fA)) (bA : Binds K fdA ["pieces"] []) (GA : FnOk P w K mg base CX0 5 fA fdA ["pieces"] (spW K piecesB)) :
    FnOk P w K mg base CX0 6 f fd ["word"] (spW K fullB) := by
  refine F.ok scFW (fun vs H Q E h => ?_) (fun cdv A outer s H vs Q E hr h => ?_)
  · obtain ⟨v, ps, rfl, _⟩ := h
    rfl
  · refine ⟨_, pss_one (ps_ret (pe_and (pe_cmpR (op_neD hr.units) (pv 0) (pe_lst pa_nil) (nomark _)) (pe_one (pe_call GA hr rfl gA FA.kp bA .nil pass0 (pa_cons (pv 0) pa_nil))))), ?_⟩
    obtain ⟨v, ps, rfl, hd, hf, k⟩ := h
    refine ⟨_, rfl, (by decide : 0 ≤ sizeLine), fun p np => ?_⟩
    have s1 := same_upd (o := .lst []) np
    refine ⟨wd ps, .list [], dp_same s1 hd, .lst (SqL.of upd_same) .nil, sh_ok (sh_wd hf), by decide, _, rfl, ?_⟩
    rw [show PyData.eqv (wd ps) (.list []) = ps.isEmpty by unfold wd; rw [eqv_nil]; cases ps <;> rfl]
    refine if_by (fun e1 => ⟨_, rfl, _, ps, rfl, dp_same s1 hd, hf, fun H2 s2 => ?_⟩) (fun e1 => ?_)
    · have z := k _ (s1.trans s2)
      rw [show fullB ps = piecesB ps by unfold fullB; rw [e1]; rfl] at z
      exact z
    · have z := k _ s1
      rw [show fullB ps = false by unfold fullB; rw [e1]; rfl] at z
      exact z
end
end Qb
end PySem
namespace PySem
namespace Qb
open PySem.W PySem.Calls PyProof.Rows L2
/-! # calls of words -/
def kws : List Str := ["if", "then", "elif", "else", "fi", "while", "until", "do", "done", "for", "in", "case", "esac", "{", "}", "!"]
structure KwT (K : Frag) (mg : Str → Option Value) : Prop where
  kw : ∃ p, mg "KEY_WORDS" = some (.ref p) ∧ ∀ H, SqT K H p (kws.map V.str)
def isKw (x : Str) : Bool := inV (.str x) (kws.map V.str)
def keyB : List Pc → Bool
  | [.bare x] => isKw x
  | _ => false
def setsD (ns : List Str) : PyData := .list (ns.map fun n => .tuple [.str n, .list []])
def Sfit (ns : List Str) : Prop := ns.length ≤ 10 ∧ ∀ n ∈ ns, n.length ≤ big ∧ PyData.strOk n = true
def wsD (ws : List (List Pc)) : PyData := .list (ws.map wd)
def WsFit (ws : List (List Pc)) : Prop := ws.length ≤ 10 ∧ ∀ w ∈ ws, Wfit w
theorem sh_sets {ns : List Str} (h : Sfit ns) : Sh 3 (setsD ns) := sh_lst fun d m => by
  obtain ⟨n, hn, rfl⟩ := List.mem_map.mp m
  refine sh_tup fun d m => ?_
  rcases List.mem_cons.mp m with rfl | m
  · exact sh_mono (sh_str (h.2 n hn).2) (by decide)
  · rcases List.mem_singleton.mp m with rfl
    exact ⟨rfl, by decide⟩
theorem sh_ws {ws : List (List Pc)} (h : WsFit ws) : Sh 4 (wsD ws) := sh_lst fun d m => by
  obtain ⟨p, hp, rfl⟩ := List.mem_map.mp m
  exact sh_wd (h.2 p hp)
def fwB (ps : List Pc) (ns : List Str) : Bool := match ps with
  | [] => false
  | p :: r => !(ns.isEmpty && keyB (p :: r)) && !(p.isBare && beginsB (cs p.txt))
def spFw (K : Frag) : Sp := fun vs H Q _ => ∃ v u ps ns, vs = [v, u] ∧ Dp K H v (wd ps) ∧ Dp K H u (setsD ns) ∧ Wfit ps ∧ ps ≠ [] ∧ Sfit ns ∧ ∀ H', Same H H' → Q (.bl (fwB ps ns)) H'
def spWs (K : Frag) : Sp := fun vs H Q _ => ∃ v ws, vs = [v] ∧ Dp K H v (wsD ws) ∧ WsFit ws ∧ ∀ H', Same H H' → Q (.bl (ws.all fullB)) H'
def doB (ns : List Str) (ws : List (List Pc)) : Bool := (ns.all fun n => isNameB (cs n)) && (ws.all fullB && fwB (ws.headD []) ns)
def spDo (K : Frag) : Sp := fun vs H Q _ => ∃ v u t ns ws, vs = [v, u, t] ∧ Dp K H v (setsD ns) ∧ Dp K H u (wsD ws) ∧ Dp K H t (.list []) ∧ Sfit ns ∧ WsFit ws ∧ ws ≠ [] ∧ ∀ H', Same H H' → Q (.bl (doB ns ws)) H'
section
variable {P : Program} {w : World} {K : Frag} {mg : Str → Option Value} {base : Heap}
theorem pc_read {H : Hp} {v : V} {p : Pc} (h : Dp K H v p.d) : ∃ b z, v = .ref b ∧ SqT K H b (.str (headK p.d) :: z) := by
  obtain ⟨y, r, e⟩ := pc_head p
  rw [e] at h ⊢
  exact head_read h
theorem bare_read {H : Hp} {v : V} {x : Str} (h : Dp K H v (Pc.d (.bare x))) : ∃ b, v = .ref b ∧ SqT K H b [.str "bare", .str x] := by
  obtain ⟨a, y, rfl, hq, h1⟩ := pc_two h
  obtain rfl := dp_str h1
  exact ⟨a, rfl, hq⟩
theorem head_bare (p : Pc) : decide (headK p.d = "bare") = p.isBare := by
  cases p with
  | bare x => rfl
  | held x => exact decide_eq_false (by show ¬ ("held" : Str) = "bare"; decide +kernel)
  | wide0 => exact decide_eq_false (by show ¬ ("wide" : Str) = "bare"; decide +kernel)
  | nam => exact decide_eq_false (by show ¬ ("name" : Str) = "bare"; decide +kernel)
theorem dec_str (x y : Str) : decide (V.str x = V.str y) = decide (x = y) := by
  by_cases h : x = y
  · rw [decide_eq_true h, decide_eq_true (congrArg V.str h)]
  · rw [decide_eq_false h, decide_eq_false fun z => h (V.str.inj z)]
theorem ok_kw {f : Addr} {fd : FuncData} (F : Fun K "is_key_word" "is_key_word" sKW f fd) (W : Wrt mg) (T : KwT K mg) : FnOk P w K mg base CX0 1 f fd ["word"] (spW K keyB) := by
  obtain ⟨pk, gk, tk⟩ := T.kw
  refine F.ok scKW (fun vs H Q E h => ?_) (fun cdv A outer s H vs Q E hr h => ?_)
  · obtain ⟨v, ps, rfl, _⟩ := h
    rfl
  · refine ⟨_, pss_one (ps_ret (pe_and (pe_cmpR op_eq (pe_callB call_len_seq (by rfl) W.len PySem.boot_len (pa_cons (pv 0) pa_nil)) pe_int (nomark _))
        (pe_and (pe_cmpR op_eq (pe_ix ix_tup (pe_ix ix_list (pv 0) pe_int (fun _ _ => rfl)) pe_int (fun _ _ => rfl)) pe_str (nomark _))
        (pe_one (pe_cmpR op_in_seq (pe_ix ix_tup (pe_ix ix_list (pv 0) pe_int (fun _ _ => rfl)) pe_int (fun _ _ => rfl)) (pe_glob (by rfl) gk (show RelV (.ref pk) (.ref pk) from rfl)) (by rfl)))))), ?_⟩
    obtain ⟨v, ps, rfl, hd, hf, k⟩ := h
    obtain ⟨a, xs, rfl, hq, all⟩ := dp_lst hd
    have lx := dpLen all
    rw [List.length_map] at lx
    refine ⟨_, rfl, a, xs, rfl, .inl hq, rfl, _, rfl, if_by (fun e => ?_) (fun e => ?_)⟩
    · have e1 : xs.length = 1 := by
        have z := of_decide_eq_true e
        have y := V.int.inj z
        omega
      obtain ⟨p, rfl⟩ : ∃ p, ps = [p] := List.length_eq_one_iff.mp (by omega)
      cases all with
      | @cons x _ xs' _ h1 t1 =>
        cases t1
        obtain ⟨b, z, rfl, q1⟩ := pc_read h1
        refine ⟨_, rfl, a, _, 0, _, rfl, rfl, hq, atI_nat (j := 0) rfl, b, _, 0, _, rfl, rfl, q1, atI_nat (j := 0) rfl, rfl, _, rfl, ?_⟩
        rw [dec_str, head_bare]
        have kk := k H (Same.refl H)
        cases p with
        | bare x =>
          obtain ⟨b', eb, q2⟩ := bare_read h1
          obtain rfl := V.ref.inj eb
          refine if_yes rfl ⟨_, rfl, a, _, 0, _, rfl, rfl, hq, atI_nat (j := 0) rfl, b, _, 1, _, rfl, rfl, q2, atI_nat (j := 1) rfl, pk, kws.map V.str, rfl, .inr (tk _), rfl, by decide +kernel, ?_⟩
          exact kk
        | held x => exact if_no rfl kk
        | wide0 => exact if_no rfl kk
        | nam => exact if_no rfl kk
    · have e1 : ¬ ps.length = 1 := fun z => by
        have y := of_decide_eq_false e
        apply y
        rw [lx, z]
        rfl
      have kk := k H (Same.refl H)
      rw [show keyB ps = false by
        match ps, e1 with
        | [], _ => rfl
        | [p], e1 => exact absurd rfl e1
        | p :: q :: r, _ => cases p <;> rfl] at kk
      exact kk
theorem ok_fst {f fK fB : Addr} {fd fdK fdB : FuncData} (F : Fun K "is_first_word" "is_first_word" sFst f fd) (FK : Fun K "is_key_word" "is_key_word" sKW fK fdK) (gK : mg "is_key_word" = some (.ref fK)) (bK : Binds K fdK ["word"] []) (GK : FnOk P w K mg base CX0 1 fK fdK ["word"] (spW K keyB))
    (FB : Fun K "begins_set" "begins_set" sBS fB fdB) (gB : mg "begins_set" = some (.ref fB)) (bB : Binds K fdB ["text"] []) (GB : FnOk P w K mg base CX0 2 fB fdB ["text"] (spTxt fun x => .bl (beginsB (cs x)))) :
    FnOk P w K mg base CX0 3 f fd ["word", "sets"] (spFw K) := by
  refine F.ok scFst (fun vs H Q E h => ?_) (fun cdv A outer s H vs Q E hr h => ?_)
  · obtain ⟨v, u, ps, ns, rfl, _⟩ := h
    rfl
  · refine ⟨_, pss_cons (ps_if (PW.pt (pw_and (pt_cmpR (op_eqD hr.units) (pv 1) (pe_lst pa_nil) (nomark _)) (pw_and1 (pt_val (pe_call GK (hr.mono (by decide)) rfl gK FK.kp bK .nil pass0 (pa_cons (pv 0) pa_nil)))))) (pss_one (ps_ret pe_bl)) pss_nil)
      (pss_one (ps_ret (pe_or (pe_cmpR op_ne (pe_ix ix_tup (pe_ix ix_list (pv 0) pe_int (fun _ _ => rfl)) pe_int (fun _ _ => rfl)) pe_str (nomark _))
        (pe_one (pe_not (pe_call GB hr rfl gB FB.kp bB .nil pass0 (pa_cons (pe_ix ix_tup (pe_ix ix_list (pv 0) pe_int (fun _ _ => rfl)) pe_int (fun _ _ => rfl)) pa_nil))))))), ?_⟩
    obtain ⟨v, u, ps, ns, rfl, hd, hu, hf, hne, hs, k⟩ := h
    refine ⟨_, rfl, (by decide : 0 ≤ sizeLine), fun p np => ?_⟩
    have s1 := same_upd (o := .lst []) np
    refine ⟨setsD ns, .list [], dp_same s1 hu, .lst (SqL.of upd_same) .nil, sh_ok (sh_sets hs), by decide, _, rfl, ?_⟩
    rw [show PyData.eqv (setsD ns) (.list []) = ns.isEmpty by unfold setsD; rw [eqv_nil]; cases ns <;> rfl]
    obtain ⟨pc, r, rfl⟩ : ∃ pc r, ps = pc :: r := List.exists_cons_of_ne_nil hne
    have tail : ∀ H1, Same H H1 → (ns.isEmpty && keyB (pc :: r)) = false → tOrV (tOp rNe (tOp (rIxT K) (tOp (rIxL K) (tVar 0) (tC (.int 0))) (tC (.int 0))) (tC (.str "bare"))) (tNotV (tCall (spTxt fun x => .bl (beginsB (cs x))) [] E0 (tCons (tOp (rIxT K) (tOp (rIxL K) (tVar 0) (tC (.int 0))) (tC (.int 1))) tNil)))
        (L2.start ["word", "sets"] [v, u]) H1 Q := fun H1 s2 e => by
      obtain ⟨a, xs, rfl, hq, all⟩ := dp_lst (dp_same s2 hd)
      cases all with
      | @cons x _ xs _ h1 h2 =>
        obtain ⟨b, z, rfl, q1⟩ := pc_read h1
        refine ⟨_, rfl, a, _, 0, _, rfl, rfl, hq, atI_nat (j := 0) rfl, b, _, 0, _, rfl, rfl, q1, atI_nat (j := 0) rfl, rfl, _, rfl, ?_⟩
        rw [dec_str, head_bare]
        have kk : ∀ H', Same H1 H' → Q (.bl (!(pc.isBare && beginsB (cs pc.txt)))) H' := fun H' s3 => by
          have z := k H' (s2.trans s3)
          rw [show fwB (pc :: r) ns = !(pc.isBare && beginsB (cs pc.txt)) by unfold fwB; simp only [e]; rfl] at z
          exact z
        cases pc with
        | bare x =>
          obtain ⟨b', eb, q2⟩ := bare_read h1
          obtain rfl := V.ref.inj eb
          refine if_no rfl ⟨_, rfl, a, _, 0, _, rfl, rfl, hq, atI_nat (j := 0) rfl, b, _, 1, _, rfl, rfl, q2, atI_nat (j := 1) rfl, _, rfl, (hf.2 _ (.head _)).1, fun H' s3 => ⟨_, rfl, ?_⟩⟩
          exact kk H' s3
        | held x => exact if_yes rfl (kk H1 (Same.refl H1))
        | wide0 => exact if_yes rfl (kk H1 (Same.refl H1))
        | nam => exact if_yes rfl (kk H1 (Same.refl H1))
    refine if_by (fun e => ⟨_, rfl, _, pc :: r, rfl, dp_same s1 hd, hf, fun H2 s2 => ⟨_, rfl, if_by (fun e2 => ?_) (fun e2 => ?_)⟩⟩) (fun e => if_no rfl ?_)
    · have z := k _ (s1.trans s2)
      rw [show fwB (pc :: r) ns = false by unfold fwB; simp only [e, e2]; rfl] at z
      exact z
    · exact tail _ (s1.trans s2) (by rw [e2, Bool.and_false])
    · exact tail _ s1 (by rw [e, Bool.false_and])
theorem ok_aws {f fF : Addr} {fd fdF : FuncData} (F : Fun K "are_words" "are_words" sAWs f fd) (W : Wrt mg) (FF : Fun K "is_full_word" "is_full_word" sFW fF fdF) (gF : mg "is_full_word" = some (.ref fF)) (bF : Binds K fdF ["word"] []) (GF : FnOk P w K mg base CX0 6 fF fdF ["word"] (spW K fullB)) :
    FnOk P w K mg base CX0 7 f fd ["words"] (spWs K) := by
  refine F.ok scAWs (fun vs H Q E h => ?_) (fun cdv A outer s H vs Q E hr h => ?_)
  · obtain ⟨v, ws, rfl, _⟩ := h
    rfl
  · refine ⟨_, pss_one (ps_ret (pe_callB (cr_all rfl) (by rfl) W.all (by decide +kernel) (pa_cons
        (pe_lc (own := [("word", 1)]) (g := gName 1) (tt := tYes) rfl scAWs.nd (pi_list (pv 0)) (blkOk_by (N := ["words", "word"]) (sc := defScope sAWs) (by decide +kernel))
          (fun _ _ _ _ _ => pg_name (i := 1) scAWs.nd rfl (Or.inl rfl)) (fun _ _ _ _ _ => pts_nil) (fun _ _ _ _ _ => pe_call GF hr rfl gF FF.kp bF .nil pass0 (pa_cons (pv 1) pa_nil))) pa_nil))), ?_⟩
    obtain ⟨v, ws, rfl, hd, hf, k⟩ := h
    obtain ⟨a, xs, rfl, hq, all⟩ := dp_lst hd
    have lx := dpLen all
    rw [List.length_map] at lx
    refine ⟨_, rfl, a, rfl, ⟨_, hq⟩, fun D hD => lc_all (bs := ws.map fullB) hq hD (by rw [List.length_map, lx]) (by rw [lx]; have := hf.1; omega) (fun i x b H' Q' hx hb s1 q => ?_) (fun H1 s1 q1 => ?_)⟩
    · obtain ⟨d, hdi, dp⟩ := dpAt' all hx
      rw [List.getElem?_map] at hdi hb
      cases ep : ws[i]? with
      | none => rw [ep] at hdi; cases hdi
      | some p =>
        rw [ep] at hdi hb
        obtain rfl := Option.some.inj hdi
        obtain rfl := Option.some.inj hb
        exact ⟨rfl, _, rfl, _, p, rfl, dp_same s1 dp, hf.2 p (List.mem_of_getElem? ep), q⟩
    · have e : (ws.map fullB).all id = ws.all fullB := by rw [List.all_map]; rfl
      refine ⟨D, _, rfl, q1, ?_⟩
      rw [e]
      exact k _ s1
theorem ok_tu {f : Addr} {fd : FuncData} (F : Fun K "are_turns" "are_turns" sTu f fd) (W : Wrt mg) : FnOk P w K mg base CX0 1 f fd ["turns"] (spNil K) := by
  refine F.ok scTu (fun vs H Q E h => ?_) (fun cdv A outer s H vs Q E hr h => ?_)
  · obtain ⟨v, rfl, _⟩ := h
    rfl
  · refine ⟨_, pss_one (ps_ret (pe_callB (cr_all rfl) (by rfl) W.all (by decide +kernel) (pa_cons
        (pe_lc (own := [("number", 1), ("mark", 2), ("word", 3)]) (g := gTup K 3 (gCons (gName 1) (gCons (gName 2) (gCons (gName 3) gNil)))) (tt := tYes) rfl scTu.nd (pi_list (pv 0)) (blkOk_by (N := ["turns", "number", "mark", "word"]) (sc := defScope sTu) (by decide +kernel))
          (fun _ _ _ _ _ => pg_tup rfl (pgs_cons (pg_name (i := 1) scTu.nd rfl (Or.inl rfl)) (pgs_cons (pg_name (i := 2) scTu.nd rfl (Or.inl rfl)) (pgs_cons (pg_name (i := 3) scTu.nd rfl (Or.inl rfl)) pgs_nil)))) (fun _ _ _ _ _ => pts_nil) (fun _ _ _ _ _ => pe_no)) pa_nil))), ?_⟩
    obtain ⟨v, rfl, hd, k⟩ := h
    obtain ⟨a, xs, rfl, hq, all⟩ := dp_lst hd
    cases all
    refine ⟨_, rfl, a, rfl, ⟨_, hq⟩, fun D hD => lc_it (walk_list (xs := [])) (fun i H' => H' = L2.upd H D (.lst [])) rfl (fun i H' _ e => by subst e; exact (same_upd hD).seq hq) (fun i x H' H2 hi => absurd hi (by simp)) (fun H' e => ?_)⟩
    subst e
    have s1 := same_upd (o := .lst []) hD
    exact ⟨D, [], rfl, SqL.of upd_same, k _ s1⟩
end
end Qb
end PySem
namespace PySem
namespace Qb
open PySem.W PySem.Calls PyProof.Rows L2
/-! # commands -/
structure Nd where
  ns : List Str
  ws : List (List Pc)
def Nd.d (n : Nd) : PyData := .tuple [.str "do", setsD n.ns, wsD n.ws, .list []]
def Nd.fit (n : Nd) : Prop := Sfit n.ns ∧ WsFit n.ws ∧ n.ws ≠ []
def Nd.ok (n : Nd) : Bool := doB n.ns n.ws
inductive Cm where
  | nd (n : Nd)
  | grp (n : Nd)
  | pip (n m : Nd)
def Cm.d : Cm → PyData
  | .nd n => n.d
  | .grp n => .tuple [.str "group", .list [n.d], .list []]
  | .pip n m => .tuple [.str "pipe", .list [n.d, m.d]]
def Cm.fit : Cm → Prop
  | .nd n => n.fit
  | .grp n => n.fit
  | .pip n m => n.fit ∧ m.fit
def Cm.ok : Cm → Bool
  | .nd n => n.ok
  | _ => true
theorem sh_nd {n : Nd} (h : n.fit) : Sh 5 n.d := by
  refine sh_tup fun d m => ?_
  rcases List.mem_cons.mp m with rfl | m
  · exact sh_mono (sh_str (by decide +kernel)) (by decide)
  rcases List.mem_cons.mp m with rfl | m
  · exact sh_mono (sh_sets h.1) (by decide)
  rcases List.mem_cons.mp m with rfl | m
  · exact sh_ws h.2.1
  · rcases List.mem_singleton.mp m with rfl
    exact ⟨rfl, by decide⟩
def spCm (K : Frag) : Sp := fun vs H Q _ => ∃ v c, vs = [v] ∧ Dp K H v (Cm.d c) ∧ c.fit ∧ ∀ H', Same H H' → Q (.bl c.ok) H'
/-- a group of one call -/
def spGr (K : Frag) : Sp := fun vs H Q _ => ∃ v n, vs = [v] ∧ Dp K H v (Cm.grp n).d ∧ n.fit ∧ ∀ H', Same H H' → Q (.bl true) H'
abbrev sCmd : Stmt := top 37
abbrev sBlk : Stmt := top 38
theorem scCmd : FnScope ["command", "sets", "words", "turns", "name", "body", "commands", "piped", "part", "other"] ["command"] (defScope sCmd) := ⟨rfl, rfl, rfl, by decide +kernel, rfl, by decide +kernel, by decide +kernel⟩
theorem scBlk : FnScope ["command", "script", "turns", "arms", "other", "test", "name", "words", "word"] ["command"] (defScope sBlk) := ⟨rfl, rfl, rfl, by decide +kernel, rfl, by decide +kernel, by decide +kernel⟩
def npt : List Str := ["pipe", "not", "and", "or"]
structure NpT (K : Frag) (mg : Str → Option Value) : Prop where
  np : ∃ p, mg "NOT_PIPED" = some (.ref p) ∧ ∀ H, SqT K H p (npt.map V.str)
/-- v == [] -/
theorem rd_eqnil {K : Frag} {σ : L2.St} {H : Hp} {Q : VK} {i : Nat} {v : V} {ds : List PyData} (hv : σ[i]? = some (some v)) (hd : Dp K H v (.list ds)) {n : Nat} (hs : Sh n (.list ds)) (k : ∀ H1, Same H H1 → Q (.bl ds.isEmpty) H1) (hn : n ≤ 64 := by decide) :
    tOp (rEqD K) (tVar i) (tLst tNil) σ H Q := by
  refine ⟨v, hv, (by decide : 0 ≤ sizeLine), fun p np => ?_⟩
  have s1 := same_upd (o := .lst []) np
  refine ⟨.list ds, .list [], dp_same s1 hd, .lst (SqL.of upd_same) .nil, sh_ok hs hn, by decide, ?_⟩
  rw [eqv_nil]
  exact k _ s1
theorem rd_nenil {K : Frag} {σ : L2.St} {H : Hp} {Q : VK} {i : Nat} {v : V} {ds : List PyData} (hv : σ[i]? = some (some v)) (hd : Dp K H v (.list ds)) {n : Nat} (hs : Sh n (.list ds)) (k : ∀ H1, Same H H1 → Q (.bl (!ds.isEmpty)) H1) (hn : n ≤ 64 := by decide) :
    tOp (rNeD K) (tVar i) (tLst tNil) σ H Q := by
  refine ⟨v, hv, (by decide : 0 ≤ sizeLine), fun p np => ?_⟩
  have s1 := same_upd (o := .lst []) np
  refine ⟨.list ds, .list [], dp_same s1 hd, .lst (SqL.of upd_same) .nil, sh_ok hs hn, by decide, ?_⟩
  rw [eqv_nil]
  exact k _ s1
section
variable {P : Program} {w : World} {K : Frag} {mg : Str → Option Value} {base : Heap}
theorem ok_doo {f fI fA fW fT fF : Addr} {fd fdI fdA fdW fdT fdF : FuncData} (F : Fun K "is_do" "is_do" sDoo f fd) (W : Wrt mg)
    (FI : Fun K "is_name" "is_name" sIN fI fdI) (gI : mg "is_name" = some (.ref fI)) (bI : Binds K fdI ["text"] []) (GI : FnOk P w K mg base CX0 2 fI fdI ["text"] (spTxt fun x => .bl (isNameB (cs x))))
    (FA : Fun K "are_pieces" "are_pieces" sAP fA fdA) (gA : mg "are_pieces" = some (.ref fA)) (bA : Binds K fdA ["pieces"] []) (GA : FnOk P w K mg base CX0 5 fA fdA ["pieces"] (spW K piecesB))
    (FW : Fun K "are_words" "are_words" sAWs fW fdW) (gW : mg "are_words" = some (.ref fW)) (bW : Binds K fdW ["words"] []) (GW : FnOk P w K mg base CX0 7 fW fdW ["words"] (spWs K))
    (FT : Fun K "are_turns" "are_turns" sTu fT fdT) (gT : mg "are_turns" = some (.ref fT)) (bT : Binds K fdT ["turns"] []) (GT : FnOk P w K mg base CX0 1 fT fdT ["turns"] (spNil K))
    (FF : Fun K "is_first_word" "is_first_word" sFst fF fdF) (gF : mg "is_first_word" = some (.ref fF)) (bF : Binds K fdF ["word", "sets"] []) (GF : FnOk P w K mg base CX0 3 fF fdF ["word", "sets"] (spFw K)) :
    FnOk P w K mg base CX0 8 f fd ["sets", "words", "turns"] (spDo K) := by
  refine F.ok scDoo (fun vs H Q E h => ?_) (fun cdv A outer s H vs Q E hr h => ?_)
  · obtain ⟨v, u, t, ns, ws, rfl, _⟩ := h
    rfl
  · refine ⟨_, pss_cons (ps_if (PW.pt (pw_and (pt_cmpR (op_eqD hr.units) (pv 0) (pe_lst pa_nil) (nomark _)) (pw_and (pt_cmpR (op_eqD hr.units) (pv 1) (pe_lst pa_nil) (nomark _)) (pw_and1 pt_never)))) (pss_one ps_never) pss_nil)
      (pss_cons (ps_if (pt_not (pt_val (pe_callB (cr_all rfl) (by rfl) W.all (by decide +kernel) (pa_cons
        (pe_lc (te := tAndV (tCall (spTxt fun x => .bl (isNameB (cs x))) [] E0 (tCons (tVar 3) tNil)) (tCall (spW K piecesB) [] E0 (tCons (tVar 4) tNil))) (own := [("name", 3), ("word", 4)]) (g := gTup K 2 (gCons (gName 3) (gCons (gName 4) gNil))) (tt := tYes) rfl scDoo.nd (pi_list (pv 0))
          (blkOk_by (N := ["sets", "words", "turns", "name", "word"]) (sc := defScope sDoo) (by decide +kernel))
          (fun _ _ _ _ _ => pg_tup rfl (pgs_cons (pg_name (i := 3) scDoo.nd rfl (Or.inl rfl)) (pgs_cons (pg_name (i := 4) scDoo.nd rfl (Or.inl rfl)) pgs_nil))) (fun _ _ _ _ _ => pts_nil)
          (fun _ _ _ _ _ => pe_and (pe_call GI (hr.mono (by decide)) rfl gI FI.kp bI .nil pass0 (pa_cons (pv 3) pa_nil)) (pe_one (pe_call GA (hr.mono (by decide)) rfl gA FA.kp bA .nil pass0 (pa_cons (pv 4) pa_nil))))) pa_nil)))) (pss_one (ps_ret pe_bl)) pss_nil)
      (pss_cons (ps_if (PW.pt (pw_or (pt_not (pt_val (pe_call GW hr rfl gW FW.kp bW .nil pass0 (pa_cons (pv 1) pa_nil)))) (pw_or1 (pt_not (pt_val (pe_call GT (hr.mono (by decide)) rfl gT FT.kp bT .nil pass0 (pa_cons (pv 2) pa_nil))))))) (pss_one (ps_ret pe_bl)) pss_nil)
      (pss_one (ps_ret (pe_or (pe_cmpR (op_eqD hr.units) (pv 1) (pe_lst pa_nil) (nomark _)) (pe_one (pe_call GF (hr.mono (by decide)) rfl gF FF.kp bF .nil pass0 (pa_cons (pe_ix ix_list (pv 1) pe_int (fun _ _ => rfl)) (pa_cons (pv 0) pa_nil))))))))), ?_⟩
    obtain ⟨v, u, t, ns, ws, rfl, hv, hu, ht, hs, hw, hne, k⟩ := h
    obtain ⟨w0, wr, rfl⟩ : ∃ a r, ws = a :: r := List.exists_cons_of_ne_nil hne
    obtain ⟨a, xs, rfl, hq, all⟩ := dp_lst hv
    have lx := dpLen all
    rw [List.length_map] at lx
    have all_v : ∀ H1, Same H H1 → Dp K H1 (.ref a) (setsD ns) := fun H1 s1 => dp_same s1 hv
    refine (fun (kk : ∀ H', Same H H' → _) => rd_eqnil rfl hv (sh_sets hs) fun H1 s1 => ⟨_, rfl, if_by (fun _ => rd_eqnil rfl (dp_same s1 hu) (sh_ws hw) fun H2 s2 => ⟨_, rfl, if_no rfl (if_no rfl (kk H2 (s1.trans s2)))⟩) (fun _ => if_no rfl (kk H1 s1))⟩) ?_
    intro H1 s1
    refine ⟨_, rfl, a, rfl, ⟨_, s1.seq hq⟩, fun D hD => lc_all (bs := ns.map fun n => isNameB (cs n)) (s1.seq hq) hD (by rw [List.length_map, lx]) (by rw [lx]; have := hs.1; omega) (fun i x b H' Q' hx hb s2 q => ?_) (fun H2 s2 q1 => ?_)⟩
    · obtain ⟨d, hdi, dp⟩ := dpAt' all hx
      rw [List.getElem?_map] at hdi hb
      cases ep : ns[i]? with
      | none => rw [ep] at hdi; cases hdi
      | some n =>
        rw [ep] at hdi hb
        obtain rfl := Option.some.inj hdi
        obtain rfl := Option.some.inj hb
        have q : ∀ H4, Same H' H4 → Q' (.bl (isNameB (cs n))) H4 := q
        obtain ⟨b, y, rfl, hqb, hy⟩ := pc_two (dp_same (s1.trans s2) dp)
        refine ⟨b, _, rfl, hqb, rfl, _, _, rfl, _, _, rfl, rfl, rfl, _, rfl, n, rfl, (hs.2 n (List.mem_of_getElem? ep)).1, fun H3 s3 => ⟨_, rfl, if_by (fun e => ?_) (fun e => ?_)⟩⟩
        · refine ⟨_, rfl, y, [], rfl, dp_same s3 hy, ⟨by decide, fun p m => by cases m⟩, fun H4 s4 => ?_⟩
          have z := q H4 (s3.trans s4)
          rw [e] at z
          exact z
        · have z := q H3 s3
          rw [e] at z
          exact z
    · have e1 : (ns.map fun n => isNameB (cs n)).all id = ns.all fun n => isNameB (cs n) := by rw [List.all_map]; rfl
      have sA := s1.trans s2
      refine ⟨D, _, rfl, q1, _, rfl, ?_⟩
      rw [e1]
      refine if_by (fun e => ?_) (fun e => ?_)
      · have z := k H2 sA
        have e' : (ns.all fun n => isNameB (cs n)) = false := by
          cases q : ns.all fun n => isNameB (cs n) with
          | false => rfl
          | true => rw [q] at e; cases e
        rw [show doB ns (w0 :: wr) = false by unfold doB; rw [e']; rfl] at z
        exact z
      · have e' : (ns.all fun n => isNameB (cs n)) = true := by
          cases q : ns.all fun n => isNameB (cs n) with
          | true => rfl
          | false => rw [q] at e; cases e
        have kd : ∀ b H', ((w0 :: wr).all fullB && fwB w0 ns) = b → Same H H' → Q (.bl b) H' := fun b H' eb s' => by
          have z := k H' s'
          rw [show doB ns (w0 :: wr) = b by unfold doB; rw [e']; exact eb] at z
          exact z
        refine ⟨_, rfl, u, _, rfl, dp_same sA hu, hw, fun H3 s3 => ⟨_, rfl, if_by (fun e2 => ?_) (fun e2 => ?_)⟩⟩
        · have e3 : (w0 :: wr).all fullB = false := by
            cases q : (w0 :: wr).all fullB with
            | false => rfl
            | true => rw [q] at e2; cases e2
          exact if_yes rfl (kd false H3 (by rw [e3, Bool.false_and]) (sA.trans s3))
        · have e3 : (w0 :: wr).all fullB = true := by
            cases q : (w0 :: wr).all fullB with
            | true => rfl
            | false => rw [q] at e2; cases e2
          refine ⟨_, rfl, t, rfl, dp_same (sA.trans s3) ht, fun H4 s4 => ⟨_, rfl, if_no rfl ?_⟩⟩
          have sB := (sA.trans s3).trans s4
          refine rd_eqnil rfl (dp_same sB hu) (sh_ws hw) fun H5 s5 => ⟨_, rfl, if_no rfl ?_⟩
          have sC := sB.trans s5
          obtain ⟨c, ys, rfl, hqc, allc⟩ := dp_lst (dp_same sC hu)
          cases allc with
          | @cons x _ ys _ h1 h2 =>
            have hfull : fullB w0 = true := by
              rw [List.all_cons, Bool.and_eq_true] at e3
              exact e3.1
            refine ⟨_, rfl, c, _, 0, _, rfl, rfl, hqc, atI_nat (j := 0) rfl, _, rfl, x, .ref a, w0, ns, rfl, h1, dp_same sC hv, hw.2 w0 (.head _), ?_, hs, fun H6 s6 => ?_⟩
            · intro z
              rw [z] at hfull
              cases hfull
            · exact kd _ _ (by rw [e3, Bool.true_and]) (sC.trans s6)
theorem ok_blk {f fT : Addr} {fd fdT : FuncData} (F : Fun K "is_block" "is_block" sBlk f fd)
    (FT : Fun K "are_turns" "are_turns" sTu fT fdT) (gT : mg "are_turns" = some (.ref fT)) (bT : Binds K fdT ["turns"] []) (GT : FnOk P w K mg base CX0 1 fT fdT ["turns"] (spNil K)) :
    FnOk P w K mg base CX0 2 f fd ["command"] (spGr K) := by
  refine F.ok scBlk (fun vs H Q E h => ?_) (fun cdv A outer s H vs Q E hr h => ?_)
  · obtain ⟨v, n, rfl, _⟩ := h
    rfl
  · refine ⟨_, pss_cons (ps_match (pv 0) (pcs_cons (is := [1, 2]) scBlk.nd (pp_seq rfl (pps_cons (pp_or (pf_cons pp_lit (pf_cons pp_lit pf_nil))) (pps_cons pp_cap (pps_cons pp_cap pps_nil)))) (.cons ⟨rfl, .inl rfl, .inr rfl⟩ (.cons ⟨rfl, .inl rfl, .inr rfl⟩ .nil))
        (pss_one (ps_ret (pe_and (pe_cmpR (op_neD hr.units) (pv 1) (pe_lst pa_nil) (nomark _)) (pe_one (pe_call GT hr rfl gT FT.kp bT .nil pass0 (pa_cons (pv 2) pa_nil))))))
        pcs_never)) (pss_one ps_never), ?_⟩
    obtain ⟨v, n, rfl, hd, hf, k⟩ := h
    obtain ⟨a, x, y, rfl, hq, h1, h2⟩ := pc_three hd
    refine ⟨_, rfl, case_hit hq (hit_or hit_lit) ?_⟩
    refine rd_nenil rfl h1 (n := 6) (sh_lst fun d m => ?_) fun H1 s1 => ⟨_, rfl, if_yes rfl ⟨_, rfl, y, rfl, dp_same s1 h2, fun H2 s2 => k _ (s1.trans s2)⟩⟩
    rcases List.mem_singleton.mp m with rfl
    exact sh_nd hf
theorem ok_cmd {f fD fB : Addr} {fd fdD fdB : FuncData} (F : Fun K "is_command" "is_command" sCmd f fd) (W : Wrt mg) (T : NpT K mg)
    (FD : Fun K "is_do" "is_do" sDoo fD fdD) (gD : mg "is_do" = some (.ref fD)) (bD : Binds K fdD ["sets", "words", "turns"] []) (GD : FnOk P w K mg base CX0 8 fD fdD ["sets", "words", "turns"] (spDo K))
    (FB : Fun K "is_block" "is_block" sBlk fB fdB) (gB : mg "is_block" = some (.ref fB)) (bB : Binds K fdB ["command"] []) (GB : FnOk P w K mg base CX0 2 fB fdB ["command"] (spGr K)) :
    FnOk P w K mg base CX0 9 f fd ["command"] (spCm K) := by
  obtain ⟨pn, gn, tn⟩ := T.np
  refine F.ok scCmd (fun vs H Q E h => ?_) (fun cdv A outer s H vs Q E hr h => ?_)
  · obtain ⟨v, c, rfl, _⟩ := h
    rfl
  · refine ⟨_, pss_cons (ps_match (pv 0)
        (pcs_cons (is := [1, 2, 3]) scCmd.nd (pp_seq rfl (pps_cons pp_lit (pps_cons pp_cap (pps_cons pp_cap (pps_cons pp_cap pps_nil))))) (.cons ⟨rfl, .inl rfl, .inr rfl⟩ (.cons ⟨rfl, .inl rfl, .inr rfl⟩ (.cons ⟨rfl, .inl rfl, .inr rfl⟩ .nil)))
          (pss_one (ps_ret (pe_call GD hr rfl gD FD.kp bD .nil pass0 (pa_cons (pv 1) (pa_cons (pv 2) (pa_cons (pv 3) pa_nil))))))
        (pcs_cons (is := [4, 5]) scCmd.nd (pp_seq rfl (pps_cons pp_lit (pps_cons pp_cap (pps_cons pp_cap pps_nil)))) (.cons ⟨rfl, .inl rfl, .inr rfl⟩ (.cons ⟨rfl, .inl rfl, .inr rfl⟩ .nil))
          pss_never
        (pcs_cons (is := [6]) scCmd.nd (pp_seq rfl (pps_cons pp_lit (pps_cons pp_cap pps_nil))) (.cons ⟨rfl, .inl rfl, .inr rfl⟩ .nil)
          (pss_one (ps_ret (pe_and (pe_cmpR op_ge (pe_callB call_len_seq (by rfl) W.len PySem.boot_len (pa_cons (pv 6) pa_nil)) pe_int (nomark _))
            (pe_one (pe_callB (cr_all rfl) (by rfl) W.all (by decide +kernel) (pa_cons
              (pe_lc (te := tOp (rIn K true) (tOp (rIxT K) (tVar 7) (tC (.int 0))) (tC (.ref pn))) (own := [("piped", 7)]) (g := gName 7) (tt := tYes) rfl scCmd.nd (pi_list (pv 6)) (blkOk_by (N := ["command", "sets", "words", "turns", "name", "body", "commands", "piped", "part", "other"]) (sc := defScope sCmd) (by decide +kernel))
                (fun _ _ _ _ _ => pg_name (i := 7) scCmd.nd rfl (Or.inl rfl)) (fun _ _ _ _ _ => pts_nil)
                (fun _ _ _ _ _ => pe_cmpR op_notIn_seq (pe_ix ix_tup (pv 7) pe_int (fun _ _ => rfl)) (pe_glob (by rfl) gn (show RelV (.ref pn) (.ref pn) from rfl)) (by rfl))) pa_nil))))))
        (pcs_cons (is := [8]) scCmd.nd (pp_seq rfl (pps_cons pp_lit (pps_cons pp_cap pps_nil))) (.cons ⟨rfl, .inl rfl, .inr rfl⟩ .nil)
          pss_never
        (pcs_cons (is := [9]) scCmd.nd (pp_seq rfl (pps_cons (pp_or (pf_cons pp_lit (pf_cons pp_lit pf_nil))) (pps_cons pp_any (pps_cons pp_cap pps_nil)))) (.cons ⟨rfl, .inl rfl, .inr rfl⟩ .nil)
          pss_never
        pcs_nil)))))) (pss_one (ps_ret (pe_call GB (hr.mono (by decide)) rfl gB FB.kp bB .nil pass0 (pa_cons (pv 0) pa_nil)))), ?_⟩
    obtain ⟨v, c, rfl, hd, hf, k⟩ := h
    cases c with
    | nd n =>
      obtain ⟨a, x, y, z, rfl, hq, h1, h2, h3⟩ := pc_four hd
      refine ⟨_, rfl, case_hit hq hit_lit ?_⟩
      exact ⟨_, rfl, _, rfl, _, rfl, x, y, z, n.ns, n.ws, rfl, h1, h2, h3, hf.1, hf.2.1, hf.2.2, k⟩
    | grp n =>
      obtain ⟨a, x, y, rfl, hq, h1, h2⟩ := pc_three hd
      refine ⟨_, rfl, case_miss hq (.inr (by simp)) (case_miss hq ml (case_miss hq (.inr (by simp)) (case_miss hq (.inr (by simp)) (case_miss hq (.inl (miss_or (miss_lit (by decide +kernel)) (miss_or (miss_lit (by decide +kernel)) miss_or0))) ?_))))⟩
      exact ⟨_, rfl, _, n, rfl, hd, hf, k⟩
    | pip n m =>
      obtain ⟨a, x, rfl, hq, h1⟩ := pc_two hd
      refine ⟨_, rfl, case_miss hq (.inr (by simp)) (case_miss hq (.inr (by simp)) (case_hit hq hit_lit ?_))⟩
      obtain ⟨b, xs, rfl, hqb, all⟩ := dp_lst h1
      have lx := dpLen all
      refine ⟨_, rfl, b, xs, rfl, .inl hqb, _, _, rfl, rfl, _, rfl, if_yes (by rw [lx]; rfl) ⟨_, rfl, b, rfl, ⟨_, hqb⟩, fun D hD => lc_all (bs := [true, true]) hqb hD (by rw [lx]; rfl) (by rw [lx]; exact (by decide : 2 ≤ 1000)) (fun i y b' H' Q' hx hb s2 q => ?_) (fun H2 s2 q1 => ⟨D, _, rfl, q1, k _ s2⟩)⟩⟩
      have e : b' = true ∧ ∃ z, y = .ref z ∧ ∃ r, SqT K H z (.str "do" :: r) := by
        obtain ⟨d, hdi, dp⟩ := dpAt' all hx
        have nn : ∀ n : Nd, Dp K H y n.d → ∃ z, y = .ref z ∧ ∃ r, SqT K H z (.str "do" :: r) := fun n h => by
          obtain ⟨z, r, rfl, q⟩ := head_read h
          exact ⟨z, rfl, r, q⟩
        match i, hdi, hb with
        | 0, hdi, hb => exact ⟨(Option.some.inj hb).symm, nn n (by rw [← Option.some.inj hdi] at dp; exact dp)⟩
        | 1, hdi, hb => exact ⟨(Option.some.inj hb).symm, nn m (by rw [← Option.some.inj hdi] at dp; exact dp)⟩
      obtain ⟨rfl, z, rfl, r, hz⟩ := e
      refine ⟨rfl, _, rfl, z, _, 0, _, rfl, rfl, sqT_same s2 hz, atI_nat (j := 0) rfl, pn, npt.map V.str, rfl, .inr (tn _), rfl, by decide +kernel, ?_⟩
      have e : inV (.str "do") (npt.map V.str) = false := by decide +kernel
      show Q' (.bl (if true = true then !inV (.str "do") (npt.map V.str) else inV (.str "do") (npt.map V.str))) H'
      rw [e]
      exact q H' (Same.refl H')
end
end Qb
end PySem
namespace PySem
namespace Qb
open PySem.W PySem.Calls PyProof.Rows L2
/-! # parts of commands: paths are lists of which only their room matters -/
def hide (H : Hp) (W : Addr) : Hp := fun b => if b = W then none else H b
theorem hide_same {H : Hp} {W : Addr} : Same (hide H W) H := fun b o h => by
  unfold hide at h
  by_cases e : b = W
  · rw [if_pos e] at h; cases h
  · rw [if_neg e] at h; exact h
theorem hide_upd {H : Hp} {W : Addr} {o : HO} : Same (hide H W) (hide (L2.upd H W o) W) := fun b u h => by
  unfold hide at h ⊢
  by_cases e : b = W
  · rw [if_pos e] at h; cases h
  · rw [if_neg e] at h ⊢
    rw [upd_ne e]
    exact h
theorem hide_mono {H H' : Hp} {W : Addr} (s : Same H H') : Same (hide H W) (hide H' W) := fun b u h => by
  unfold hide at h ⊢
  by_cases e : b = W
  · rw [if_pos e] at h; cases h
  · rw [if_neg e] at h ⊢
    exact s b u h
/-- what was there before W came -/
theorem hide_of {H H' : Hp} {W : Addr} (s : Same H H') (h : H W = none) : Same H (hide H' W) := fun b u e => by
  unfold hide
  rw [if_neg (ne_of_none e h)]
  exact s b u e
def Pth (H : Hp) (n : Nat) (a : Addr) : Prop := ∃ zs, H a = some (.lst zs) ∧ zs.length ≤ n
theorem Pth.same {H H' : Hp} {n : Nat} {a : Addr} (h : Pth H n a) (s : Same H H') : Pth H' n a := by
  obtain ⟨zs, h, l⟩ := h
  exact ⟨zs, s _ _ h, l⟩
/-- new tuples (path, kind, part), the part's data as they stood in G -/
def Itm (K : Frag) (G H H' : Hp) (v : V) (q : Str × PyData) : Prop := ∃ t pa x, v = .ref t ∧ H t = none ∧ H' t = some (.tup [.ref pa, .str q.1, x]) ∧ H pa = none ∧ Pth H' 10 pa ∧ Dp K G x q.2
/-- new tuples (path, part) -/
def Inn (K : Frag) (G H H' : Hp) (v : V) (d : PyData) : Prop := ∃ t pa x, v = .ref t ∧ H t = none ∧ H' t = some (.tup [.ref pa, x]) ∧ H pa = none ∧ Pth H' 10 pa ∧ Dp K G x d
theorem Itm.same {K : Frag} {G H0 H H' H2 : Hp} {v : V} {q : Str × PyData} (h : Itm K G H H' v q) (s0 : Same H0 H) (s : Same H' H2) : Itm K G H0 H2 v q := by
  obtain ⟨t, pa, x, e, n1, h1, n2, h2, h3⟩ := h
  exact ⟨t, pa, x, e, s0.free n1, s _ _ h1, s0.free n2, h2.same s, h3⟩
theorem Inn.same {K : Frag} {G H0 H H' H2 : Hp} {v : V} {q : PyData} (h : Inn K G H H' v q) (s0 : Same H0 H) (s : Same H' H2) : Inn K G H0 H2 v q := by
  obtain ⟨t, pa, x, e, n1, h1, n2, h2, h3⟩ := h
  exact ⟨t, pa, x, e, s0.free n1, s _ _ h1, s0.free n2, h2.same s, h3⟩
theorem hide_ne {H : Hp} {W b : Addr} {o : HO} (h : H b = some o) (ne : b ≠ W) : hide H W b = some o := by
  unfold hide
  rw [if_neg ne]
  exact h
/-- what is new is not what was there -/
theorem Itm.hide {K : Frag} {G H H' : Hp} {W : Addr} {o : HO} {v : V} {q : Str × PyData} (h : Itm K G H H' v q) (hW : H W = some o) : Itm K G H (hide H' W) v q := by
  obtain ⟨t, pa, x, e, n1, h1, n2, ⟨zs, hz, lz⟩, h3⟩ := h
  exact ⟨t, pa, x, e, n1, hide_ne h1 (fun z => by rw [z, hW] at n1; cases n1), n2, ⟨zs, hide_ne hz (fun z => by rw [z, hW] at n2; cases n2), lz⟩, h3⟩
theorem Inn.hide {K : Frag} {G H H' : Hp} {W : Addr} {o : HO} {v : V} {q : PyData} (h : Inn K G H H' v q) (hW : H W = some o) : Inn K G H (hide H' W) v q := by
  obtain ⟨t, pa, x, e, n1, h1, n2, ⟨zs, hz, lz⟩, h3⟩ := h
  exact ⟨t, pa, x, e, n1, hide_ne h1 (fun z => by rw [z, hW] at n1; cases n1), n2, ⟨zs, hide_ne hz (fun z => by rw [z, hW] at n2; cases n2), lz⟩, h3⟩
/-- one to one -/
inductive All2 {α β : Type} (R : α → β → Prop) : List α → List β → Prop
  | nil : All2 R [] []
  | cons {a : α} {b : β} {as : List α} {bs : List β} : R a b → All2 R as bs → All2 R (a :: as) (b :: bs)
theorem All2.mono {α β : Type} {R S : α → β → Prop} (f : ∀ a b, R a b → S a b) : ∀ {as : List α} {bs : List β}, All2 R as bs → All2 S as bs
  | _, _, .nil => .nil
  | _, _, .cons h t => .cons (f _ _ h) (t.mono f)
theorem All2.app {α β : Type} {R : α → β → Prop} : ∀ {as as' : List α} {bs bs' : List β}, All2 R as bs → All2 R as' bs' → All2 R (as ++ as') (bs ++ bs')
  | _, _, _, _, .nil, h => h
  | _, _, _, _, .cons h t, h' => .cons h (t.app h')
theorem All2.len {α β : Type} {R : α → β → Prop} : ∀ {as : List α} {bs : List β}, All2 R as bs → as.length = bs.length
  | _, _, .nil => rfl
  | _, _, .cons _ t => congrArg Nat.succ t.len
theorem All2.at {α β : Type} {R : α → β → Prop} : ∀ {as : List α} {bs : List β} {i : Nat} {a : α}, All2 R as bs → as[i]? = some a → ∃ b, bs[i]? = some b ∧ R a b
  | _, _, _, _, .nil, e => by cases e
  | _, _, 0, _, .cons h _, e => by
    obtain rfl := Option.some.inj e
    exact ⟨_, rfl, h⟩
  | _, _, i + 1, _, .cons _ t, e => t.at (i := i) e
abbrev sAll : Stmt := top 53
abbrev sTW : Stmt := top 54
abbrev sPts : Stmt := top 51
abbrev sBP : Stmt := top 52
theorem scAll : FnScope ["path", "kind", "parts", "at", "part"] ["path", "kind", "parts"] (defScope sAll) := ⟨rfl, rfl, rfl, by decide +kernel, rfl, by decide +kernel, by decide +kernel⟩
theorem scTW : FnScope ["index", "turns", "at", "turn"] ["index", "turns"] (defScope sTW) := ⟨rfl, rfl, rfl, by decide +kernel, rfl, by decide +kernel, by decide +kernel⟩
theorem scPts : FnScope ["command", "sets", "words", "turns", "at", "pair", "set_words", "body", "commands", "one", "other"] ["command"] (defScope sPts) := ⟨rfl, rfl, rfl, by decide +kernel, rfl, by decide +kernel, by decide +kernel⟩
theorem scBP : FnScope ["command", "script", "turns", "arms", "other", "test", "words", "word"] ["command"] (defScope sBP) := ⟨rfl, rfl, rfl, by decide +kernel, rfl, by decide +kernel, by decide +kernel⟩
def spAll (K : Frag) : Sp := fun vs H Q _ => ∃ G pa k v ds, vs = [.ref pa, .str k, v] ∧ Pth H 5 pa ∧ Same G H ∧ Dp K G v (.list ds) ∧ ds.length ≤ 100 ∧ ∀ H' r xs, Same H H' → H r = none → H' r = some (.lst xs) → All2 (Itm K G H H') xs (ds.map fun d => (k, d)) → Q (.ref r) H'
/-- the words of no turns -/
def spTW (K : Frag) : Sp := fun vs H Q _ => ∃ i v, vs = [i, v] ∧ Dp K H v (.list []) ∧ ∀ H' r, Same H H' → H r = none → H' r = some (.lst []) → Q (.ref r) H'
section
variable {P : Program} {w : World} {K : Frag} {mg : Str → Option Value} {base : Heap}
theorem ok_all {f : Addr} {fd : FuncData} (F : Fun K "all_at" "all_at" sAll f fd) (W : Wrt mg) : FnOk P w K mg base CX0 1 f fd ["path", "kind", "parts"] (spAll K) := by
  refine F.ok scAll (fun vs H Q E h => ?_) (fun cdv A outer s H vs Q E hr h => ?_)
  · obtain ⟨G, pa, k, v, ds, rfl, _⟩ := h
    rfl
  · refine ⟨_, pss_cons (ps_if (pt_cmpR op_isN (pv 2) pe_non (nomark _)) (pss_one ps_never) pss_nil)
      (pss_one (ps_ret (pe_lc (own := [("at", 3), ("part", 4)]) (g := gTup K 2 (gCons (gName 3) (gCons (gName 4) gNil))) (tt := tYes) rfl scAll.nd (pi_enum (by rfl) W.enum (pa_cons (pv 2) pa_nil)) (blkOk_by (N := ["path", "kind", "parts", "at", "part"]) (sc := defScope sAll) (by decide +kernel))
          (fun _ _ _ _ _ => pg_tup rfl (pgs_cons (pg_name (i := 3) scAll.nd rfl (Or.inl rfl)) (pgs_cons (pg_name (i := 4) scAll.nd rfl (Or.inl rfl)) pgs_nil))) (fun _ _ _ _ _ => pts_nil)
          (fun _ _ _ _ _ => pe_tup (pa_cons (pe_op op_cat (pv 0) (pe_lst (pa_cons (pv 3) pa_nil))) (pa_cons (pv 1) (pa_cons (pv 4) pa_nil))))))), ?_⟩
    obtain ⟨G, pa, k, v, ds, rfl, hp, sG, hd, hl, kk⟩ := h
    obtain ⟨a, xs, rfl, hq0, all⟩ := dp_lst hd
    have hq := sG.seq hq0
    have lx := dpLen all
    refine ⟨_, rfl, rfl, _, rfl, if_no rfl ?_⟩
    refine ⟨_, rfl, a, xs, rfl, hq, fun D hD => lc_it (walk_enum (xs := xs)) (fun i H' => Same H H' ∧ ∃ ys, H' D = some (.lst ys) ∧ All2 (Itm K G H (hide H' D)) ys ((ds.take i).map fun d => (k, d))) ⟨same_upd hD, [], upd_same, .nil⟩ (fun i H' _ e => e.1.seq hq) (fun i x H' H2 hi e y => ?_) (fun H' e => ?_)⟩
    · obtain ⟨s1, ys, hDy, ay⟩ := e
      obtain ⟨T, x1, x2, rfl, nT, rfl, h1, hx⟩ := y
      have h1 : some (V.int (i : Nat)) = some x1 := h1
      obtain rfl := Option.some.inj h1
      obtain ⟨zs, hz, lz⟩ := hp
      obtain ⟨d, hdi, dp⟩ := dpAt' all hx
      have sT := same_upd (o := .tup [.int (i : Nat), x2]) nT
      refine ⟨T, _, rfl, SqT.of upd_same, rfl, _, _, rfl, _, _, rfl, rfl, rfl, ?_⟩
      refine ⟨_, rfl, _, rfl, (by decide : 1 ≤ sizeLine), fun p np => ⟨pa, p, zs, _, rfl, rfl, ?_, upd_same, ?_, fun q nq => ⟨_, rfl, _, rfl, (by decide : 3 ≤ sizeLine), fun t nt => ?_⟩⟩⟩
      · exact same_upd np _ _ (sT _ _ (s1 _ _ hz))
      · show zs.length + 1 ≤ sizeLine
        rw [sizeLine_eq]
        omega
      · have sA := ((sT.trans (same_upd (o := .lst [.int (i : Nat)]) np)).trans (same_upd (o := .lst (zs ++ [.int (i : Nat)])) nq)).trans (same_upd (o := .tup [.ref q, .str k, x2]) nt)
        have sD := sA _ _ hDy
        have s3 := s1.trans sA
        have ly := ay.len
        rw [List.length_map, List.length_take] at ly
        refine ⟨ys, sD, ?_, same_upd2 s3 hD, _, upd_same, ?_⟩
        · rw [sizeLine_eq]
          omega
        · rw [take_snoc hdi, List.map_append]
          have sH := (hide_mono (W := D) sA).trans (hide_upd (o := .lst (ys ++ [V.ref t])))
          refine (ay.mono fun _ _ h => h.same (Same.refl H) sH).app (.cons ?_ .nil)
          have sT1 := sT.trans (same_upd (o := .lst [.int (i : Nat)]) np)
          have sT2 := sT1.trans (same_upd (o := .lst (zs ++ [.int (i : Nat)])) nq)
          have sq3 := same_upd (o := .tup [.ref q, .str k, x2]) nt
          have tD : t ≠ D := fun z => by
            have e1 := sT2 _ _ hDy
            rw [z] at nt
            rw [nt] at e1
            cases e1
          have qD : q ≠ D := fun z => by
            have e1 := sT1 _ _ hDy
            rw [z] at nq
            rw [nq] at e1
            cases e1
          refine ⟨t, q, x2, rfl, (s1.trans sT2).free nt, hide_ne (by rw [upd_ne tD]; exact upd_same) tD, (s1.trans sT1).free nq, ⟨zs ++ [.int (i : Nat)], hide_ne (by rw [upd_ne qD]; exact sq3 _ _ upd_same) qD, ?_⟩, dp⟩
          rw [List.length_append, List.length_singleton]
          omega
    · obtain ⟨s1, ys, hDy, ay⟩ := e
      rw [List.take_of_length_le (Nat.le_of_eq lx.symm)] at ay
      exact kk H' D ys s1 hD hDy (ay.mono fun _ _ h => h.same (Same.refl H) hide_same)
theorem ok_tw {f : Addr} {fd : FuncData} (F : Fun K "turn_words" "turn_words" sTW f fd) (W : Wrt mg) : FnOk P w K mg base CX0 1 f fd ["index", "turns"] (spTW K) := by
  refine F.ok scTW (fun vs H Q E h => ?_) (fun cdv A outer s H vs Q E hr h => ?_)
  · obtain ⟨i, v, rfl, _⟩ := h
    rfl
  · refine ⟨_, pss_one (ps_ret (pe_lc (own := [("at", 2), ("turn", 3)]) (g := gTup K 2 (gCons (gName 2) (gCons (gName 3) gNil))) (tt := tYes) rfl scTW.nd (pi_enum (by rfl) W.enum (pa_cons (pv 1) pa_nil)) (blkOk_by (N := ["index", "turns", "at", "turn"]) (sc := defScope sTW) (by decide +kernel))
          (fun _ _ _ _ _ => pg_tup rfl (pgs_cons (pg_name (i := 2) scTW.nd rfl (Or.inl rfl)) (pgs_cons (pg_name (i := 3) scTW.nd rfl (Or.inl rfl)) pgs_nil))) (fun _ _ _ _ _ => pts_nil) (fun _ _ _ _ _ => pe_no))), ?_⟩
    obtain ⟨i, v, rfl, hd, k⟩ := h
    obtain ⟨a, xs, rfl, hq, all⟩ := dp_lst hd
    cases all
    exact ⟨_, rfl, a, [], rfl, hq, fun D hD => lc_it (walk_enum (xs := [])) (fun i H' => H' = L2.upd H D (.lst [])) rfl (fun i H' _ e => by subst e; exact (same_upd hD).seq hq) (fun i x H' H2 hi => absurd hi (by simp)) (fun H' e => by
      subst e
      exact k _ D (same_upd hD) hD upd_same)⟩
end
end Qb
end PySem
namespace PySem
namespace Qb
open PySem.W PySem.Calls PyProof.Rows L2
def wordQ (d : PyData) : Str × PyData := ("word", d)
def cmdQ (d : PyData) : Str × PyData := ("command", d)
def Cm.items : Cm → List (Str × PyData)
  | .nd n => (n.ns.map fun _ => wordQ (.list [])) ++ n.ws.map fun w => wordQ (wd w)
  | .grp n => [cmdQ n.d]
  | .pip n m => [cmdQ n.d, cmdQ m.d]
def spPts (K : Frag) : Sp := fun vs H Q _ => ∃ G v c, vs = [v] ∧ Same G H ∧ Dp K G v (Cm.d c) ∧ c.fit ∧ ∀ H' r xs, Same H H' → H r = none → H' r = some (.lst xs) → All2 (Itm K G H H') xs c.items → Q (.ref r) H'
def spBP (K : Frag) : Sp := fun vs H Q _ => ∃ G v n, vs = [v] ∧ Same G H ∧ Dp K G v (Cm.grp n).d ∧ ∀ H' r xs, Same H H' → H r = none → H' r = some (.lst xs) → All2 (Itm K G H H') xs (Cm.grp n).items → Q (.ref r) H'
section
variable {P : Program} {w : World} {K : Frag} {mg : Str → Option Value} {base : Heap}
theorem ok_bp {f fA fT : Addr} {fd fdA fdT : FuncData} (F : Fun K "block_parts" "block_parts" sBP f fd)
    (FA : Fun K "all_at" "all_at" sAll fA fdA) (gA : mg "all_at" = some (.ref fA)) (bA : Binds K fdA ["path", "kind", "parts"] []) (GA : FnOk P w K mg base CX0 1 fA fdA ["path", "kind", "parts"] (spAll K))
    (FT : Fun K "turn_words" "turn_words" sTW fT fdT) (gT : mg "turn_words" = some (.ref fT)) (bT : Binds K fdT ["index", "turns"] []) (GT : FnOk P w K mg base CX0 1 fT fdT ["index", "turns"] (spTW K)) :
    FnOk P w K mg base CX0 2 f fd ["command"] (spBP K) := by
  refine F.ok scBP (fun vs H Q E h => ?_) (fun cdv A outer s H vs Q E hr h => ?_)
  · obtain ⟨G, v, n, rfl, _⟩ := h
    rfl
  · refine ⟨_, pss_cons (ps_match (pv 0) (pcs_cons (is := [1, 2]) scBP.nd (pp_seq rfl (pps_cons (pp_or (pf_cons pp_lit (pf_cons pp_lit pf_nil))) (pps_cons pp_cap (pps_cons pp_cap pps_nil)))) (.cons ⟨rfl, .inl rfl, .inr rfl⟩ (.cons ⟨rfl, .inl rfl, .inr rfl⟩ .nil))
        (pss_one (ps_ret (pe_op op_cat (pe_call GA hr rfl gA FA.kp bA .nil pass0 (pa_cons (pe_lst (pa_cons pe_int pa_nil)) (pa_cons pe_str (pa_cons (pv 1) pa_nil)))) (pe_call GT hr rfl gT FT.kp bT .nil pass0 (pa_cons pe_int (pa_cons (pv 2) pa_nil))))))
        pcs_never)) (pss_one ps_never), ?_⟩
    obtain ⟨G, v, n, rfl, sG, hd, k⟩ := h
    obtain ⟨a, x, y, rfl, hq, h1, h2⟩ := pc_three hd
    have hq := sqT_same sG hq
    refine ⟨_, rfl, case_hit hq (hit_or hit_lit) ?_⟩
    refine ⟨(by decide : 1 ≤ sizeLine), fun p np => ⟨_, rfl, G, p, "command", x, [n.d], rfl, ⟨_, upd_same, by decide⟩, sG.trans (same_upd np), h1, (by decide : 1 ≤ 100), fun H1 r xs s1 fr hr1 a1 => ?_⟩⟩
    have sA := (same_upd np).trans s1
    refine ⟨_, rfl, .int 2, y, rfl, dp_same (sG.trans sA) h2, fun H2 r2 s2 fr2 hr2 => ⟨r, r2, xs, [], rfl, rfl, s2 _ _ hr1, hr2, ?_, fun q nq => ?_⟩⟩
    · have := a1.len
      show xs.length + 0 ≤ sizeLine
      rw [sizeLine_eq, this]
      exact (by decide : 1 + 0 ≤ 16777216)
    · have s3 := same_upd (o := .lst (xs ++ [])) nq
      refine k _ q (xs ++ []) ((sA.trans s2).trans s3) ((sA.trans s2).free nq) upd_same ?_
      rw [List.append_nil]
      exact a1.mono fun _ _ h => h.same (same_upd np) (s2.trans (by rw [List.append_nil] at s3; exact s3))
theorem ok_pts {f fA fT fB : Addr} {fd fdA fdT fdB : FuncData} (F : Fun K "parts_of" "parts_of" sPts f fd) (W : Wrt mg)
    (FA : Fun K "all_at" "all_at" sAll fA fdA) (gA : mg "all_at" = some (.ref fA)) (bA : Binds K fdA ["path", "kind", "parts"] []) (GA : FnOk P w K mg base CX0 1 fA fdA ["path", "kind", "parts"] (spAll K))
    (FT : Fun K "turn_words" "turn_words" sTW fT fdT) (gT : mg "turn_words" = some (.ref fT)) (bT : Binds K fdT ["index", "turns"] []) (GT : FnOk P w K mg base CX0 1 fT fdT ["index", "turns"] (spTW K))
    (FB : Fun K "block_parts" "block_parts" sBP fB fdB) (gB : mg "block_parts" = some (.ref fB)) (bB : Binds K fdB ["command"] []) (GB : FnOk P w K mg base CX0 2 fB fdB ["command"] (spBP K)) :
    FnOk P w K mg base CX0 3 f fd ["command"] (spPts K) := by
  refine F.ok scPts (fun vs H Q E h => ?_) (fun cdv A outer s H vs Q E hr h => ?_)
  · obtain ⟨G, v, n, rfl, _⟩ := h
    rfl
  · refine ⟨_, pss_cons (ps_match (pv 0)
        (pcs_cons (is := [1, 2, 3]) scPts.nd (pp_seq rfl (pps_cons pp_lit (pps_cons pp_cap (pps_cons pp_cap (pps_cons pp_cap pps_nil))))) (.cons ⟨rfl, .inl rfl, .inr rfl⟩ (.cons ⟨rfl, .inl rfl, .inr rfl⟩ (.cons ⟨rfl, .inl rfl, .inr rfl⟩ .nil)))
          (pss_cons (ps_setLc (i := 6) (own := [("at", 4), ("pair", 5)]) (g := gTup K 2 (gCons (gName 4) (gCons (gName 5) gNil))) (tt := tYes)
              (te := tTup (tCons (tLst (tCons (tC (.int 1)) (tCons (tVar 4) (tCons (tC (.int 1)) tNil)))) (tCons (tC (.str "word")) (tCons (tOp (rIxT K) (tVar 5) (tC (.int 1))) tNil)))) rfl scPts.nd rfl rfl (sw_true rfl rfl rfl (by decide +kernel)) (pi_enum (by rfl) W.enum (pa_cons (pv 1) pa_nil))
              (blkOk_by (N := ["command", "sets", "words", "turns", "at", "pair", "set_words", "body", "commands", "one", "other"]) (sc := defScope sPts) (by decide +kernel))
              (fun _ _ _ _ _ => pg_tup rfl (pgs_cons (pg_name (i := 4) scPts.nd rfl (Or.inl rfl)) (pgs_cons (pg_name (i := 5) scPts.nd rfl (Or.inl rfl)) pgs_nil))) (fun _ _ _ _ _ => pts_nil)
              (fun _ _ _ _ _ => pe_tup (pa_cons (pe_lst (pa_cons pe_int (pa_cons (pv 4) (pa_cons pe_int pa_nil)))) (pa_cons pe_str (pa_cons (pe_ix ix_tup (pv 5) pe_int (fun _ _ => rfl)) pa_nil)))))
            (pss_one (ps_ret (pe_op op_cat (pe_op op_cat (pv 6) (pe_call GA (hr.mono (by decide)) rfl gA FA.kp bA .nil pass0 (pa_cons (pe_lst (pa_cons pe_int pa_nil)) (pa_cons pe_str (pa_cons (pv 2) pa_nil)))))
              (pe_call GT (hr.mono (by decide)) rfl gT FT.kp bT .nil pass0 (pa_cons pe_int (pa_cons (pv 3) pa_nil)))))))
        (pcs_cons (is := [7]) scPts.nd (pp_seq rfl (pps_cons pp_lit (pps_cons pp_any (pps_cons pp_cap pps_nil)))) (.cons ⟨rfl, .inl rfl, .inr rfl⟩ .nil)
          pss_never
        (pcs_cons (is := [8]) scPts.nd (pp_seq rfl (pps_cons pp_lit (pps_cons pp_cap pps_nil))) (.cons ⟨rfl, .inl rfl, .inr rfl⟩ .nil)
          (pss_one (ps_ret (pe_call GA (hr.mono (by decide)) rfl gA FA.kp bA .nil pass0 (pa_cons (pe_lst (pa_cons pe_int pa_nil)) (pa_cons pe_str (pa_cons (pv 8) pa_nil))))))
        (pcs_cons (is := [7]) scPts.nd (pp_seq rfl (pps_cons pp_lit (pps_cons pp_cap pps_nil))) (.cons ⟨rfl, .inl rfl, .inr rfl⟩ .nil)
          pss_never
        (pcs_cons (is := [9, 10]) scPts.nd (pp_seq rfl (pps_cons (pp_or (pf_cons pp_lit (pf_cons pp_lit pf_nil))) (pps_cons pp_cap (pps_cons pp_cap pps_nil)))) (.cons ⟨rfl, .inl rfl, .inr rfl⟩ (.cons ⟨rfl, .inl rfl, .inr rfl⟩ .nil))
          pss_never
        pcs_nil)))))) (pss_one (ps_ret (pe_call GB hr rfl gB FB.kp bB .nil pass0 (pa_cons (pv 0) pa_nil)))), ?_⟩
    obtain ⟨G, v, c, rfl, sG, hd, hf, k⟩ := h
    cases c with
    | grp n =>
      obtain ⟨a, x, y, rfl, hq, h1, h2⟩ := pc_three hd
      have hq := sqT_same sG hq
      refine ⟨_, rfl, case_miss hq (.inr (by simp)) (case_miss hq ml (case_miss hq (.inr (by simp)) (case_miss hq (.inr (by simp)) (case_miss hq (.inl (miss_or (miss_lit (by decide +kernel)) (miss_or (miss_lit (by decide +kernel)) miss_or0))) ?_))))⟩
      exact ⟨_, rfl, G, _, n, rfl, sG, hd, k⟩
    | pip n m =>
      obtain ⟨a, x, rfl, hq, h1⟩ := pc_two hd
      have hq := sqT_same sG hq
      refine ⟨_, rfl, case_miss hq (.inr (by simp)) (case_miss hq (.inr (by simp)) (case_hit hq hit_lit ?_))⟩
      exact ⟨(by decide : 1 ≤ sizeLine), fun p np => ⟨_, rfl, G, p, "command", x, [n.d, m.d], rfl, ⟨_, upd_same, by decide⟩, sG.trans (same_upd np), h1, (by decide : 2 ≤ 100), fun H1 r xs s1 fr hr1 a1 => k H1 r xs ((same_upd np).trans s1) ((same_upd np).free fr) hr1 (a1.mono fun _ _ h => h.same (same_upd np) (Same.refl H1))⟩⟩
    | nd n =>
      obtain ⟨a, x, y, z, rfl, hq, h1, h2, h3⟩ := pc_four hd
      have hq := sqT_same sG hq
      refine ⟨_, rfl, case_hit hq hit_lit ?_⟩
      obtain ⟨b, xs, rfl, hqb0, all⟩ := dp_lst h1
      have hqb := sG.seq hqb0
      have lx := dpLen all
      rw [List.length_map] at lx
      have hn := hf.1.1
      refine ⟨_, rfl, b, xs, rfl, hqb, fun D hD => lc_it (walk_enum (xs := xs)) (fun i H' => Same H H' ∧ ∃ ys, H' D = some (.lst ys) ∧ All2 (Itm K G H (hide H' D)) ys ((n.ns.take i).map fun _ => wordQ (.list []))) ⟨same_upd hD, [], upd_same, .nil⟩ (fun i H' _ e => e.1.seq hqb) (fun i x H' H2 hi e y => ?_) (fun H' e => ?_)⟩
      · obtain ⟨s1, ys, hDy, ay⟩ := e
        obtain ⟨T, x1, x2, rfl, nT, rfl, h1, hx⟩ := y
        have h1 : some (V.int (i : Nat)) = some x1 := h1
        obtain rfl := Option.some.inj h1
        obtain ⟨d, hdi, dp⟩ := dpAt' all hx
        rw [List.getElem?_map] at hdi
        cases ep : n.ns[i]? with
        | none => rw [ep] at hdi; cases hdi
        | some nm =>
          rw [ep] at hdi
          obtain rfl := Option.some.inj hdi
          obtain ⟨c, u, rfl, hqc, hu⟩ := pc_two dp
          have sT := same_upd (o := .tup [.int (i : Nat), .ref c]) nT
          refine ⟨T, _, rfl, SqT.of upd_same, rfl, _, _, rfl, _, _, rfl, rfl, rfl, ?_⟩
          refine ⟨_, rfl, (by decide : 3 ≤ sizeLine), fun p np => ⟨_, rfl, c, _, 1, _, rfl, rfl, sqT_same (((sG.trans s1).trans sT).trans (same_upd np)) hqc, atI_nat (j := 1) rfl, (by decide : 3 ≤ sizeLine), fun t nt => ?_⟩⟩
          have sp := same_upd (o := .lst [.int 1, .int (i : Nat), .int 1]) np
          have st := same_upd (o := .tup [.ref p, .str "word", u]) nt
          have sA := (sT.trans sp).trans st
          have s3 := s1.trans sA
          have ly := ay.len
          rw [List.length_map, List.length_take] at ly
          refine ⟨ys, sA _ _ hDy, ?_, same_upd2 s3 hD, _, upd_same, ?_⟩
          · rw [sizeLine_eq]
            omega
          · rw [take_snoc ep, List.map_append]
            have sH := (hide_mono (W := D) sA).trans (hide_upd (o := .lst (ys ++ [V.ref t])))
            refine (ay.mono fun _ _ h => h.same (Same.refl H) sH).app (.cons ?_ .nil)
            have nt' : t ≠ D := fun z => by
              have e1 := (sT.trans sp) _ _ hDy
              rw [z] at nt
              rw [nt] at e1
              cases e1
            have np' : p ≠ D := fun z => by
              have e1 := sT _ _ hDy
              rw [z] at np
              rw [np] at e1
              cases e1
            exact ⟨t, p, u, rfl, (s1.trans (sT.trans sp)).free nt, hide_ne (by rw [upd_ne nt']; exact upd_same) nt', (s1.trans sT).free np, ⟨[.int 1, .int (i : Nat), .int 1], hide_ne (by rw [upd_ne np']; exact st _ _ upd_same) np', (by decide : 3 ≤ 10)⟩, hu⟩
      · obtain ⟨s1, ys, hDy, ay⟩ := e
        rw [List.take_of_length_le (Nat.le_of_eq lx.symm)] at ay
        have ay := ay.mono fun _ _ h => h.same (Same.refl H) hide_same
        refine ⟨_, rfl, (by decide : 1 ≤ sizeLine), fun p np => ?_⟩
        have sp := same_upd (o := .lst [.int 2]) np
        refine ⟨_, rfl, G, p, "word", y, n.ws.map wd, rfl, ⟨_, upd_same, by decide⟩, (sG.trans s1).trans sp, h2, ?_, fun H1 r zs s2 fr hr1 a1 => ?_⟩
        · rw [List.length_map]
          have := hf.2.1.1
          omega
        · have ly := ay.len
          have lz := a1.len
          rw [List.length_map] at ly
          rw [List.length_map, List.length_map] at lz
          have hw := hf.2.1.1
          have sB := sp.trans s2
          refine ⟨D, r, ys, zs, rfl, rfl, sB _ _ hDy, hr1, ?_, fun q nq => ?_⟩
          · rw [sizeLine_eq]
            omega
          · have sq := same_upd (o := .lst (ys ++ zs)) nq
            refine ⟨_, rfl, .int 3, z, rfl, dp_same (((sG.trans s1).trans sB).trans sq) h3, fun H3 r3 s3 fr3 hr3 => ⟨q, r3, ys ++ zs, [], rfl, rfl, s3 _ _ upd_same, hr3, ?_, fun g ng => ?_⟩⟩
            · rw [List.length_append, sizeLine_eq]
              show ys.length + zs.length + 0 ≤ _
              omega
            · have sg := same_upd (o := .lst (ys ++ zs ++ [])) ng
              have sC := (sq.trans s3).trans sg
              refine k _ g _ ((s1.trans sB).trans sC) (((s1.trans sB).trans (sq.trans s3)).free ng) upd_same ?_
              rw [List.append_nil] at sC ⊢
              have e2 : (n.ws.map wd).map (fun d => (("word" : Str), d)) = n.ws.map fun w => wordQ (wd w) := by rw [List.map_map]; rfl
              rw [e2] at a1
              exact (ay.mono fun _ _ h => h.same (Same.refl H) (sB.trans sC)).app (a1.mono fun _ _ h => h.same (s1.trans sp) sC)
end
end Qb
end PySem
namespace PySem
namespace Qb
open PySem.W PySem.Calls PyProof.Rows L2
abbrev sSW : Stmt := top 57
abbrev sCW : Stmt := top 58
abbrev sCIn : Stmt := top 59
abbrev nSW : List Str := ["pieces", "found", "at", "piece", "script", "inner", "path", "deeper", "word"]
abbrev nCW : List Str := ["word", "found", "path", "script", "at", "command"]
abbrev nCIn : List Str := ["command", "found", "path", "kind", "part", "way", "inner"]
theorem scSW : FnScope nSW ["pieces"] (defScope sSW) := ⟨rfl, rfl, rfl, by decide +kernel, rfl, by decide +kernel, by decide +kernel⟩
theorem scCW : FnScope nCW ["word"] (defScope sCW) := ⟨rfl, rfl, rfl, by decide +kernel, rfl, by decide +kernel, by decide +kernel⟩
theorem scCIn : FnScope nCIn ["command"] (defScope sCIn) := ⟨rfl, rfl, rfl, by decide +kernel, rfl, by decide +kernel, by decide +kernel⟩
/-- no scripts in no pieces -/
def spS0 (K : Frag) : Sp := fun vs H Q _ => ∃ v, vs = [v] ∧ Dp K H v (.list []) ∧ ∀ H' r, Same H H' → H' r = some (.lst []) → Q (.ref r) H'
/-- no scripts in words as they are drawn here -/
def spS1 (K : Frag) : Sp := fun vs H Q _ => ∃ v ps, vs = [v] ∧ Dp K H v (wd ps) ∧ ∀ H' r, Same H H' → H' r = some (.lst []) → Q (.ref r) H'
def Cm.inner : Cm → List PyData
  | .nd _ => []
  | .grp n => [n.d]
  | .pip n m => [n.d, m.d]
def spCI (K : Frag) : Sp := fun vs H Q _ => ∃ G v c, vs = [v] ∧ Same G H ∧ Dp K G v (Cm.d c) ∧ c.fit ∧ ∀ H' r xs, Same H H' → H r = none → H' r = some (.lst xs) → All2 (Inn K G H H') xs c.inner → Q (.ref r) H'
section
variable {P : Program} {w : World} {K : Frag} {mg : Str → Option Value} {base : Heap}
theorem ok_s0 {f : Addr} {fd : FuncData} (F : Fun K "scripts_in_word" "scripts_in_word" sSW f fd) (W : Wrt mg) : FnOk P w K mg base CX0 1 f fd ["pieces"] (spS0 K) := by
  refine F.ok scSW (fun vs H Q E h => ?_) (fun cdv A outer s H vs Q E hr h => ?_)
  · obtain ⟨v, rfl, _⟩ := h
    rfl
  · refine ⟨_, pss_cons (ps_set (i := 1) scSW.nd rfl (.inl rfl) (pe_lst pa_nil)) (pss_cons
      (ps_for PassesOwn.never rfl (pi_enum (by rfl) W.enum (pa_cons (pv 0) pa_nil)) (pg_tup rfl (pgs_cons (pg_name (i := 2) scSW.nd rfl (Or.inr rfl)) (pgs_cons (pg_name (i := 3) scSW.nd rfl (Or.inl rfl)) pgs_nil))) (pss_one ps_never))
      (pss_one (ps_ret (pv 1)))), ?_⟩
    obtain ⟨v, rfl, hd, k⟩ := h
    obtain ⟨a, xs, rfl, hq, all⟩ := dp_lst hd
    cases all
    refine ⟨(by decide : 0 ≤ sizeLine), fun D nD => ⟨_, rfl, a, [], rfl, (same_upd nD).seq hq, for_it (walk_enum (xs := [])) (fun i σ H' => σ = [some (.ref a), some (.ref D), none, none, none, none, none, none, none] ∧ H' = L2.upd H D (.lst [])) ⟨rfl, rfl⟩
      (fun i σ H' _ e => by obtain ⟨_, rfl⟩ := e; exact (same_upd nD).seq hq) (fun i x σ H' H2 hi => absurd hi (by simp)) (fun σ H' e => ?_)⟩⟩
    obtain ⟨rfl, rfl⟩ := e
    exact ⟨_, rfl, k _ D (same_upd nD) upd_same⟩
theorem ok_s1 {f : Addr} {fd : FuncData} (F : Fun K "scripts_in_word" "scripts_in_word" sSW f fd) (W : Wrt mg) (gF : mg "scripts_in_word" = some (.ref f)) (bF : Binds K fd ["pieces"] []) : FnOk P w K mg base CX0 2 f fd ["pieces"] (spS1 K) := by
  have G0 : FnOk P w K mg base CX0 1 f fd ["pieces"] (spS0 K) := ok_s0 F W
  refine F.ok scSW (fun vs H Q E h => ?_) (fun cdv A outer s H vs Q E hr h => ?_)
  · obtain ⟨v, ps, rfl, _⟩ := h
    rfl
  · refine ⟨_, pss_cons (ps_set (i := 1) scSW.nd rfl (.inl rfl) (pe_lst pa_nil)) (pss_cons
      (ps_for PassesOwn.never rfl (pi_enum (by rfl) W.enum (pa_cons (pv 0) pa_nil)) (pg_tup rfl (pgs_cons (pg_name (i := 2) scSW.nd rfl (Or.inr rfl)) (pgs_cons (pg_name (i := 3) scSW.nd rfl (Or.inl rfl)) pgs_nil)))
        (pss_one (ps_match (pv 3)
          (pcs_cons (is := [4]) scSW.nd (pp_seq rfl (pps_cons pp_lit (pps_cons pp_cap pps_nil))) (.cons ⟨rfl, .inl rfl, .inr rfl⟩ .nil) pss_never
          (pcs_cons (is := [5]) scSW.nd (pp_seq rfl (pps_cons pp_lit (pps_cons pp_cap pps_nil))) (.cons ⟨rfl, .inl rfl, .inr rfl⟩ .nil)
            (pss_one (ps_expr (pe_bm PySem.F.plainAttrs_list PySem.F.slot_list_extend PySem.F.type_list_extend mt_extend (pv 1) (pa_cons
              (pe_lc (own := [("path", 6), ("deeper", 7)]) (g := gTup K 2 (gCons (gName 6) (gCons (gName 7) gNil))) (tt := tYes) rfl scSW.nd (pi_list (pe_call G0 hr rfl gF F.kp bF .nil pass0 (pa_cons (pv 5) pa_nil))) (blkOk_by (N := nSW) (sc := defScope sSW) (by decide +kernel))
                (fun _ _ _ _ _ => pg_tup rfl (pgs_cons (pg_name (i := 6) scSW.nd rfl (Or.inl rfl)) (pgs_cons (pg_name (i := 7) scSW.nd rfl (Or.inl rfl)) pgs_nil))) (fun _ _ _ _ _ => pts_nil) (fun _ _ _ _ _ => pe_no)) pa_nil))))
          (pcs_cons (is := [8]) scSW.nd (pp_seq rfl (pps_cons pp_lit (pps_cons pp_any (pps_cons (pp_seq rfl (pps_cons (pp_or (pf_cons pp_lit (pf_cons pp_lit (pf_cons pp_lit (pf_cons pp_lit (pf_cons pp_lit pf_nil)))))) (pps_cons pp_any (pps_cons pp_cap pps_nil)))) pps_nil)))) (.cons ⟨rfl, .inl rfl, .inr rfl⟩ .nil) pss_never
          pcs_nil))))))
      (pss_one (ps_ret (pv 1)))), ?_⟩
    obtain ⟨v, ps, rfl, hd, k⟩ := h
    obtain ⟨l, xs, rfl, hq, all⟩ := dp_lst hd
    refine ⟨(by decide : 0 ≤ sizeLine), fun D nD => ⟨_, rfl, l, xs, rfl, (same_upd nD).seq hq, for_it (walk_enum (xs := xs)) (fun i σ H' => (∃ a b c d e f g, σ = [some (.ref l), some (.ref D), a, b, c, d, e, f, g]) ∧ Same H H' ∧ H' D = some (.lst [])) ⟨⟨_, _, _, _, _, _, _, rfl⟩, same_upd nD, upd_same⟩
      (fun i σ H' _ e => e.2.1.seq hq) (fun i x σ H' H2 hi e y => ?_) (fun σ H' e => ?_)⟩⟩
    · obtain ⟨⟨s1, s2, s3, s4, s5, s6, s7, rfl⟩, sH, hD⟩ := e
      obtain ⟨T, x1, x2, rfl, nT, rfl, _, hx⟩ := y
      obtain ⟨d, hdi, dp⟩ := dpAt' all hx
      rw [List.getElem?_map] at hdi
      cases ep : ps[i]? with
      | none => rw [ep] at hdi; cases hdi
      | some p =>
        rw [ep] at hdi
        obtain rfl := Option.some.inj hdi
        have sT := same_upd (o := .tup [x1, x2]) nT
        have sA := sH.trans sT
        have hD2 := sT _ _ hD
        refine ⟨T, _, rfl, SqT.of upd_same, rfl, _, _, rfl, _, _, rfl, rfl, _, rfl, ?_⟩
        cases p with
        | bare t =>
          obtain ⟨a, y, rfl, hqa, h1⟩ := pc_two (dp_same sA dp)
          exact case_miss hqa ml (case_miss hqa ml (case_miss hqa (.inr (by simp)) ⟨⟨_, _, _, _, _, _, _, rfl⟩, sA, hD2⟩))
        | held t =>
          obtain ⟨a, y, rfl, hqa, h1⟩ := pc_two (dp_same sA dp)
          exact case_miss hqa ml (case_miss hqa ml (case_miss hqa (.inr (by simp)) ⟨⟨_, _, _, _, _, _, _, rfl⟩, sA, hD2⟩))
        | wide0 =>
          obtain ⟨a, y, rfl, hqa, h1⟩ := pc_two (dp_same sA dp)
          refine case_miss hqa ml (case_hit hqa hit_lit ?_)
          refine ⟨_, rfl, .inl ⟨rfl, _, SqL.of hD2⟩, _, rfl, y, rfl, h1, fun H3 r s3 hr3 => ⟨r, rfl, ⟨_, SqL.of hr3⟩, fun D2 nD2 => lc_it (walk_list (xs := [])) (fun i H' => H' = L2.upd H3 D2 (.lst [])) rfl (fun i H' _ e => by subst e; exact (same_upd nD2).seq (SqL.of hr3)) (fun i x H' H2 hi => absurd hi (by simp)) (fun H' e => ?_)⟩⟩
          subst e
          have s4 := same_upd (o := .lst []) nD2
          have hD3 := s4 _ _ (s3 _ _ hD2)
          refine ⟨D, D2, [], [], rfl, rfl, hD3, upd_same, by decide, ⟨_, _, _, _, _, _, _, rfl⟩, ?_, upd_same⟩
          exact same_upd2 ((sA.trans s3).trans s4) nD
        | nam =>
          obtain ⟨a, y, z, rfl, hqa, h1, h2⟩ := pc_three (dp_same sA dp)
          obtain ⟨b, zs, rfl, hqb, allb⟩ := dp_tup h2
          cases allb
          refine case_miss hqa ml (case_miss hqa ml ?_)
          refine ⟨a, _, rfl, hqa, fun ne => absurd rfl ne, fun _ => hit_lit _ _ ?_⟩
          exact ⟨b, [], rfl, hqb, fun _ => ⟨⟨_, _, _, _, _, _, _, rfl⟩, sA, hD2⟩, fun e => absurd e (by simp)⟩
    · obtain ⟨⟨s1, s2, s3, s4, s5, s6, s7, rfl⟩, sH, hD⟩ := e
      exact ⟨_, rfl, k _ D sH hD⟩
theorem ok_cw {f fS : Addr} {fd fdS : FuncData} (F : Fun K "commands_in_word" "commands_in_word" sCW f fd) (FS : Fun K "scripts_in_word" "scripts_in_word" sSW fS fdS) (gS : mg "scripts_in_word" = some (.ref fS)) (bS : Binds K fdS ["pieces"] []) (GS : FnOk P w K mg base CX0 2 fS fdS ["pieces"] (spS1 K)) :
    FnOk P w K mg base CX0 3 f fd ["word"] (spS1 K) := by
  refine F.ok scCW (fun vs H Q E h => ?_) (fun cdv A outer s H vs Q E hr h => ?_)
  · obtain ⟨v, ps, rfl, _⟩ := h
    rfl
  · refine ⟨_, pss_cons (ps_set (i := 1) scCW.nd rfl (.inl rfl) (pe_lst pa_nil)) (pss_cons
      (ps_for PassesOwn.never rfl (pi_list (pe_call GS hr rfl gS FS.kp bS .nil pass0 (pa_cons (pv 0) pa_nil))) (pg_tup rfl (pgs_cons (pg_name (i := 2) scCW.nd rfl (Or.inr rfl)) (pgs_cons (pg_name (i := 3) scCW.nd rfl (Or.inl rfl)) pgs_nil))) (pss_one ps_never))
      (pss_one (ps_ret (pv 1)))), ?_⟩
    obtain ⟨v, ps, rfl, hd, k⟩ := h
    refine ⟨(by decide : 0 ≤ sizeLine), fun D nD => ⟨_, rfl, v, ps, rfl, dp_same (same_upd nD) hd, fun H2 r s2 hr2 => ⟨r, rfl, ⟨_, SqL.of hr2⟩, for_it (walk_list (xs := [])) (fun i σ H' => σ = [some v, some (.ref D), none, none, none, none] ∧ H' = H2) ⟨rfl, rfl⟩
      (fun i σ H' _ e => by obtain ⟨_, rfl⟩ := e; exact SqL.of hr2) (fun i x σ H' H2 hi => absurd hi (by simp)) (fun σ H' e => ?_)⟩⟩⟩
    obtain ⟨rfl, rfl⟩ := e
    exact ⟨_, rfl, k _ D ((same_upd nD).trans s2) (s2 _ _ upd_same)⟩
end
end Qb
end PySem
namespace PySem
namespace Qb
open PySem.W PySem.Calls PyProof.Rows L2
def inn (l : List (Str × PyData)) : List PyData := (l.filter fun q => decide (q.1 = ("command" : Str))).map fun q => q.2
theorem inn_app (l m : List (Str × PyData)) : inn (l ++ m) = inn l ++ inn m := by
  unfold inn
  rw [List.filter_append, List.map_append]
theorem inn_len (l : List (Str × PyData)) : (inn l).length ≤ l.length := by
  unfold inn
  rw [List.length_map]
  exact List.length_filter_le ..
theorem inn_words {l : List (Str × PyData)} (h : ∀ q ∈ l, q.1 = "word") : inn l = [] := by
  unfold inn
  rw [List.filter_eq_nil_iff.mpr fun q hq => by
    rw [h q hq]
    decide +kernel]
  rfl
theorem items_word (n : Nd) : ∀ q ∈ (Cm.nd n).items, q.1 = "word" ∧ ∃ ps, q.2 = wd ps := fun q hq => by
  rcases List.mem_append.mp hq with m | m
  · obtain ⟨x, _, rfl⟩ := List.mem_map.mp m
    exact ⟨rfl, [], rfl⟩
  · obtain ⟨x, _, rfl⟩ := List.mem_map.mp m
    exact ⟨rfl, x, rfl⟩
theorem items_kind (c : Cm) : ∀ q ∈ c.items, q.1 = "command" ∨ (q.1 = "word" ∧ ∃ ps, q.2 = wd ps) := fun q hq => by
  cases c with
  | nd n => exact .inr (items_word n q hq)
  | grp n =>
    rcases List.mem_singleton.mp hq with rfl
    exact .inl rfl
  | pip n m =>
    rcases List.mem_cons.mp hq with rfl | hq
    · exact .inl rfl
    · rcases List.mem_singleton.mp hq with rfl
      exact .inl rfl
theorem inn_items (c : Cm) : inn c.items = c.inner := by
  cases c with
  | nd n => exact inn_words fun q hq => (items_word n q hq).1
  | grp n => rfl
  | pip n m => rfl
theorem items_len {c : Cm} (h : c.fit) : c.items.length ≤ 30 := by
  cases c with
  | nd n =>
    have h1 := h.1.1
    have h2 := h.2.1.1
    show (_ ++ _ : List _).length ≤ _
    rw [List.length_append, List.length_map, List.length_map]
    omega
  | grp n => exact (by decide : 1 ≤ 30)
  | pip n m => exact (by decide : 2 ≤ 30)
section
variable {P : Program} {w : World} {K : Frag} {mg : Str → Option Value} {base : Heap}
theorem ok_ci {f fP fC : Addr} {fd fdP fdC : FuncData} (F : Fun K "commands_within" "commands_within" sCIn f fd)
    (FP : Fun K "parts_of" "parts_of" sPts fP fdP) (gP : mg "parts_of" = some (.ref fP)) (bP : Binds K fdP ["command"] []) (GP : FnOk P w K mg base CX0 3 fP fdP ["command"] (spPts K))
    (FC : Fun K "commands_in_word" "commands_in_word" sCW fC fdC) (gC : mg "commands_in_word" = some (.ref fC)) (bC : Binds K fdC ["word"] []) (GC : FnOk P w K mg base CX0 3 fC fdC ["word"] (spS1 K)) :
    FnOk P w K mg base CX0 4 f fd ["command"] (spCI K) := by
  refine F.ok scCIn (fun vs H Q E h => ?_) (fun cdv A outer s H vs Q E hr h => ?_)
  · obtain ⟨G, v, c, rfl, _⟩ := h
    rfl
  · refine ⟨_, pss_cons (ps_set (i := 1) scCIn.nd rfl (.inl rfl) (pe_lst pa_nil)) (pss_cons
      (ps_for PassesOwn.never rfl (pi_list (pe_call GP hr rfl gP FP.kp bP .nil pass0 (pa_cons (pv 0) pa_nil))) (pg_tup rfl (pgs_cons (pg_name (i := 2) scCIn.nd rfl (Or.inr rfl)) (pgs_cons (pg_name (i := 3) scCIn.nd rfl (Or.inl rfl)) (pgs_cons (pg_name (i := 4) scCIn.nd rfl (Or.inl rfl)) pgs_nil))))
        (pss_one (ps_if (pt_cmpR op_eq (pv 3) pe_str (nomark _))
          (pss_one (ps_expr (pe_bm PySem.F.plainAttrs_list PySem.F.slot_list_append PySem.F.type_list_append mt_append (pv 1) (pa_cons (pe_tup (pa_cons (pv 2) (pa_cons (pv 4) pa_nil))) pa_nil))))
          (pss_one (ps_expr (pe_bm PySem.F.plainAttrs_list PySem.F.slot_list_extend PySem.F.type_list_extend mt_extend (pv 1) (pa_cons
              (pe_lc (own := [("way", 5), ("inner", 6)]) (g := gTup K 2 (gCons (gName 5) (gCons (gName 6) gNil))) (tt := tYes) rfl scCIn.nd (pi_list (pe_call GC hr rfl gC FC.kp bC .nil pass0 (pa_cons (pv 4) pa_nil))) (blkOk_by (N := nCIn) (sc := defScope sCIn) (by decide +kernel))
                (fun _ _ _ _ _ => pg_tup rfl (pgs_cons (pg_name (i := 5) scCIn.nd rfl (Or.inl rfl)) (pgs_cons (pg_name (i := 6) scCIn.nd rfl (Or.inl rfl)) pgs_nil))) (fun _ _ _ _ _ => pts_nil) (fun _ _ _ _ _ => pe_no)) pa_nil)))))))
      (pss_one (ps_ret (pv 1)))), ?_⟩
    obtain ⟨G, v, c, rfl, sG, hd, hf, k⟩ := h
    refine ⟨(by decide : 0 ≤ sizeLine), fun D nD => ?_⟩
    have sD := same_upd (o := .lst []) nD
    refine ⟨_, rfl, G, v, c, rfl, sG.trans sD, hd, hf, fun H2 r xs s2 fr hr2 aI0 => ?_⟩
    have hD2 := s2 _ _ (upd_same (H := H) (a := D) (o := .lst []))
    have aI := aI0.mono fun _ _ h => h.hide (W := D) upd_same
    have rD : r ≠ D := fun z => by
      rw [z, upd_same] at fr
      cases fr
    have hrh := hide_ne hr2 rD
    refine ⟨r, rfl, ⟨_, SqL.of hr2⟩, for_it (walk_list (xs := xs)) (fun i σ H' => (∃ b c d e f, σ = [some v, some (.ref D), b, c, d, e, f]) ∧ Same H H' ∧ Same (hide H2 D) (hide H' D) ∧ ∃ ys, H' D = some (.lst ys) ∧ All2 (Inn K G H (hide H' D)) ys (inn (c.items.take i)))
      ⟨⟨_, _, _, _, _, rfl⟩, sD.trans s2, Same.refl _, [], hD2, .nil⟩ (fun i σ H' _ e => SqL.of (hide_same _ _ (e.2.2.1 _ _ hrh))) (fun i x σ H' H3 hi e y => ?_) (fun σ H' e => ?_)⟩
    · obtain ⟨⟨s1, s3, s4, s5, s6, rfl⟩, sH, sh, ys, hDy, ay⟩ := e
      obtain ⟨rfl, hx⟩ := y
      obtain ⟨q, hq, t, pa, z, rfl, n1, h1, n2, h2, h3⟩ := aI.at hx
      have hi' : i < c.items.length := by
        rcases Nat.lt_or_ge i c.items.length with l | l
        · exact l
        · rw [List.getElem?_eq_none l] at hq; cases hq
      have lI := items_len hf
      have ly := ay.len
      have ll := inn_len (c.items.take i)
      rw [List.length_take] at ll
      have ht := hide_same _ _ (sh _ _ h1)
      refine ⟨t, _, rfl, SqT.of ht, rfl, _, _, rfl, _, _, rfl, _, _, rfl, rfl, ?_⟩
      refine ⟨_, rfl, rfl, _, rfl, ?_⟩
      rw [dec_str]
      rcases items_kind c q (List.mem_of_getElem? hq) with e | ⟨e, ps, eps⟩
      · refine if_yes (decide_eq_true e) ⟨_, rfl, .inl ⟨rfl, _, SqL.of hDy⟩, _, rfl, _, rfl, (by decide : 2 ≤ sizeLine), fun T nT => ?_⟩
        have sT := same_upd (o := .tup [.ref pa, z]) nT
        have TD : T ≠ D := fun z => by
          rw [z, hDy] at nT
          cases nT
        refine ⟨D, ys, _, rfl, rfl, sT _ _ hDy, ?_, ⟨_, _, _, _, _, rfl⟩, same_upd2 (sH.trans sT) nD, sh.trans ((hide_mono sT).trans hide_upd), _, upd_same, ?_⟩
        · rw [sizeLine_eq]
          omega
        · rw [take_snoc hq, inn_app]
          have sX := (hide_mono (W := D) sT).trans (hide_upd (o := .lst (ys ++ [V.ref T])))
          have e1 : inn [q] = [q.2] := by
            unfold inn
            rw [List.filter_cons_of_pos (by rw [decide_eq_true e])]
            rfl
          rw [e1]
          refine (ay.mono fun _ _ h => h.same (Same.refl H) sX).app (.cons ?_ .nil)
          exact ⟨T, pa, z, rfl, sH.free nT, hide_ne (by rw [upd_ne TD]; exact upd_same) TD, sD.free n2, h2.same (sh.trans sX), h3⟩
      · refine if_no (decide_eq_false (by rw [e]; decide +kernel)) ⟨_, rfl, .inl ⟨rfl, _, SqL.of hDy⟩, _, rfl, z, ps, rfl, ?_, fun H4 r4 s4 hr4 => ⟨r4, rfl, ⟨_, SqL.of hr4⟩, fun D2 nD2 => lc_it (walk_list (xs := [])) (fun i H' => H' = L2.upd H4 D2 (.lst [])) rfl (fun i H' _ e => by subst e; exact (same_upd nD2).seq (SqL.of hr4)) (fun i x H' H2 hi => absurd hi (by simp)) (fun H' e => ?_)⟩⟩
        · rw [← eps]
          exact dp_same (sG.trans sH) h3
        · subst e
          have s5 := same_upd (o := .lst []) nD2
          have sA := s4.trans s5
          refine ⟨D, D2, ys, [], rfl, rfl, sA _ _ hDy, upd_same, ?_, ⟨_, _, _, _, _, rfl⟩, same_upd2 (sH.trans sA) nD, sh.trans ((hide_mono sA).trans hide_upd), _, upd_same, ?_⟩
          · rw [sizeLine_eq]
            show ys.length + 0 ≤ _
            omega
          · have sX := (hide_mono (W := D) sA).trans (hide_upd (o := .lst (ys ++ [])))
            rw [take_snoc hq, inn_app, show inn [q] = [] from inn_words fun q' m => by
              rcases List.mem_singleton.mp m with rfl
              assumption, List.append_nil, List.append_nil]
            rw [List.append_nil] at sX
            exact ay.mono fun _ _ h => h.same (Same.refl H) sX
    · obtain ⟨⟨s1, s3, s4, s5, s6, rfl⟩, sH, sh, ys, hDy, ay⟩ := e
      have lx := aI0.len
      rw [List.take_of_length_le (Nat.le_of_eq lx.symm), inn_items] at ay
      exact ⟨_, rfl, k _ D ys sH nD hDy (ay.mono fun _ _ h => h.same (Same.refl H) hide_same)⟩
end
end Qb
end PySem
namespace PySem
namespace Qb
open PySem.W PySem.Calls PyProof.Rows L2
abbrev sIS : Stmt := top 61
abbrev sFWr : Stmt := top 62
abbrev sFI : Stmt := top 63
abbrev nFI : List Str := ["commands", "path", "command", "waiting", "looked_within", "within", "way", "inner"]
theorem scIS : FnScope ["tree"] ["tree"] (defScope sIS) := ⟨rfl, rfl, rfl, by decide +kernel, rfl, by decide +kernel, by decide +kernel⟩
theorem scFWr : FnScope ["script", "at", "command"] ["script"] (defScope sFWr) := ⟨rfl, rfl, rfl, by decide +kernel, rfl, by decide +kernel, by decide +kernel⟩
theorem scFI : FnScope nFI ["commands"] (defScope sFI) := ⟨rfl, rfl, rfl, by decide +kernel, rfl, by decide +kernel, by decide +kernel⟩
def Cm.all : Cm → Bool
  | .nd n => n.ok
  | .grp n => n.ok
  | .pip n m => n.ok && m.ok
def Cm.inn : Cm → List Cm
  | .nd _ => []
  | .grp n => [.nd n]
  | .pip n m => [.nd n, .nd m]
theorem inner_inn (c : Cm) : c.inner = c.inn.map Cm.d := by
  cases c <;> rfl
theorem all_inn (c : Cm) : (c.ok && c.inn.all Cm.all) = c.all := by
  cases c with
  | nd n => exact Bool.and_true _
  | grp n => exact Bool.and_true _
  | pip n m =>
    show (n.ok && (m.ok && true)) = (n.ok && m.ok)
    rw [Bool.and_true]
def stB : Bool × Cm → Bool
  | (true, c) => c.ok
  | (false, c) => c.all
def wt : Bool × Cm → Nat
  | (true, _) => 1
  | (false, c) => 2 + 2 * c.inn.length
def wts : List (Bool × Cm) → Nat
  | [] => 0
  | e :: r => wt e + wts r
theorem wts_app (l m : List (Bool × Cm)) : wts (l ++ m) = wts l + wts m := by
  induction l with
  | nil => exact (Nat.zero_add _).symm
  | cons e l ih =>
    show wt e + wts (l ++ m) = wt e + wts l + wts m
    rw [ih, Nat.add_assoc]
theorem wts_len (l : List (Bool × Cm)) : l.length ≤ wts l := by
  induction l with
  | nil => exact Nat.le_refl _
  | cons e l ih =>
    have h : 1 ≤ wt e := by
      obtain ⟨b, c⟩ := e
      cases b
      · show 1 ≤ 2 + _
        omega
      · exact Nat.le_refl _
    show l.length + 1 ≤ wt e + wts l
    omega
theorem wts_nd : ∀ (l : List Cm), (∀ c ∈ l, c.inn = []) → wts (l.map fun c => (false, c)) = 2 * l.length
  | [], _ => rfl
  | c :: l, h => by
    have ih := wts_nd l fun d m => h d (.tail _ m)
    have e : wt (false, c) = 2 := by
      show 2 + 2 * c.inn.length = 2
      rw [h c (.head _)]
      rfl
    show wt (false, c) + wts (l.map fun c => (false, c)) = 2 * (l.length + 1)
    rw [e, ih]
    omega
theorem inn_nd (c : Cm) : ∀ d ∈ c.inn, d.inn = [] := fun d m => by
  cases c with
  | nd n => cases m
  | grp n =>
    rcases List.mem_singleton.mp m with rfl
    rfl
  | pip n k =>
    rcases List.mem_cons.mp m with rfl | m
    · rfl
    · rcases List.mem_singleton.mp m with rfl
      rfl
theorem inn_fit {c : Cm} (h : c.fit) : ∀ d ∈ c.inn, d.fit := fun d m => by
  cases c with
  | nd n => cases m
  | grp n =>
    rcases List.mem_singleton.mp m with rfl
    exact h
  | pip n k =>
    rcases List.mem_cons.mp m with rfl | m
    · exact h.1
    · rcases List.mem_singleton.mp m with rfl
      exact h.2
theorem inn_le (c : Cm) : c.inn.length ≤ 2 := by
  cases c with
  | nd n => exact (by decide : 0 ≤ 2)
  | grp n => exact (by decide : 1 ≤ 2)
  | pip n k => exact (by decide : 2 ≤ 2)
/-- how long a path may be -/
def pb : Cm → Nat
  | .nd _ => 30
  | _ => 10
theorem pb_inn {c : Cm} : ∀ d ∈ c.inn, pb c = 10 ∧ pb d = 30 := fun d m => by
  cases c with
  | nd n => cases m
  | grp n =>
    rcases List.mem_singleton.mp m with rfl
    exact ⟨rfl, rfl⟩
  | pip n k =>
    rcases List.mem_cons.mp m with rfl | m
    · exact ⟨rfl, rfl⟩
    · rcases List.mem_singleton.mp m with rfl
      exact ⟨rfl, rfl⟩
theorem pb_ge (c : Cm) : 10 ≤ pb c ∧ pb c ≤ 30 := by
  cases c
  · exact ⟨(by decide : 10 ≤ 30), (by decide : 30 ≤ 30)⟩
  · exact ⟨(by decide : 10 ≤ 10), (by decide : 10 ≤ 30)⟩
  · exact ⟨(by decide : 10 ≤ 10), (by decide : 10 ≤ 30)⟩
def Ent (K : Frag) (H : Hp) (v : V) (e : Bool × Cm) : Prop := ∃ t pa x, v = .ref t ∧ SqT K H t [.bl e.1, .ref pa, x] ∧ Pth H (pb e.2) pa ∧ Dp K H x e.2.d ∧ e.2.fit
def CmdIn (K : Frag) (H : Hp) (v : V) (c : Cm) : Prop := ∃ t pa x, v = .ref t ∧ SqT K H t [.ref pa, x] ∧ Pth H 10 pa ∧ Dp K H x c.d ∧ c.fit
theorem Ent.same {K : Frag} {H H' : Hp} {v : V} {e : Bool × Cm} (h : Ent K H v e) (s : Same H H') : Ent K H' v e := by
  obtain ⟨t, pa, x, e1, h1, h2, h3, h4⟩ := h
  exact ⟨t, pa, x, e1, sqT_same s h1, h2.same s, dp_same s h3, h4⟩
theorem CmdIn.same {K : Frag} {H H' : Hp} {v : V} {e : Cm} (h : CmdIn K H v e) (s : Same H H') : CmdIn K H' v e := by
  obtain ⟨t, pa, x, e1, h1, h2, h3, h4⟩ := h
  exact ⟨t, pa, x, e1, sqT_same s h1, h2.same s, dp_same s h3, h4⟩
theorem All2.last {α β : Type} {R : α → β → Prop} : ∀ {as : List α} {bs : List β}, All2 R as bs → as ≠ [] → ∃ as' a bs' b, as = as' ++ [a] ∧ bs = bs' ++ [b] ∧ All2 R as' bs' ∧ R a b
  | _, _, .nil, ne => absurd rfl ne
  | _, _, .cons (as := []) h .nil, _ => ⟨[], _, [], _, rfl, rfl, .nil, h⟩
  | _, _, .cons (as := _ :: _) h t, _ => by
    obtain ⟨as', a, bs', b, e1, e2, t', h'⟩ := t.last (by simp)
    exact ⟨_ :: as', a, _ :: bs', b, by rw [e1]; rfl, by rw [e2]; rfl, .cons h t', h'⟩
theorem All2.get2 {α β : Type} {R : α → β → Prop} : ∀ {as : List α} {bs : List β} {i : Nat} {b : β}, All2 R as bs → bs[i]? = some b → ∃ a, as[i]? = some a ∧ R a b
  | _, _, _, _, .nil, e => by cases e
  | _, _, 0, _, .cons h _, e => by
    obtain rfl := Option.some.inj e
    exact ⟨_, rfl, h⟩
  | _, _, i + 1, _, .cons _ t, e => t.get2 (i := i) e
theorem hide2_upd {H : Hp} {D W : Addr} {o : HO} : Same (hide (hide H D) W) (hide (hide (L2.upd H W o) D) W) := fun b u h => by
  by_cases e : b = W
  · unfold hide at h
    rw [if_pos e] at h
    cases h
  · have h1 := hide_same _ _ h
    by_cases e2 : b = D
    · unfold hide at h1
      rw [if_pos e2] at h1
      cases h1
    · exact hide_ne (hide_ne (by rw [upd_ne e]; exact hide_same _ _ h1) e2) e
def spFI (K : Frag) : Sp := fun vs H Q _ => ∃ (r : Addr) (xs : List V) (cs : List Cm), vs = [.ref r] ∧ SqL K H r xs ∧ All2 (CmdIn K H) xs cs ∧ cs.length ≤ 10 ∧ ∀ H' u, Same H H' → decide (u = V.non) = cs.all Cm.all → Q u H'
def spTr (K : Frag) (f : Bool → V → Prop) : Sp := fun vs H Q _ => ∃ (v : V) (cs : List Cm), vs = [v] ∧ Dp K H v (.list (cs.map Cm.d)) ∧ cs.length ≤ 10 ∧ (∀ c ∈ cs, c.fit) ∧ ∀ H' u, Same H H' → f (cs.all Cm.all) u → Q u H'
section
variable {P : Program} {w : World} {K : Frag} {mg : Str → Option Value} {base : Heap}
theorem ok_fi {f fC fI : Addr} {fd fdC fdI : FuncData} (F : Fun K "first_wrong_in" "first_wrong_in" sFI f fd) (W : Wrt mg)
    (FC : Fun K "is_command" "is_command" sCmd fC fdC) (gC : mg "is_command" = some (.ref fC)) (bC : Binds K fdC ["command"] []) (GC : FnOk P w K mg base CX0 9 fC fdC ["command"] (spCm K))
    (FI : Fun K "commands_within" "commands_within" sCIn fI fdI) (gI : mg "commands_within" = some (.ref fI)) (bI : Binds K fdI ["command"] []) (GI : FnOk P w K mg base CX0 4 fI fdI ["command"] (spCI K)) :
    FnOk P w K mg base CX0 10 f fd ["commands"] (spFI K) := by
  refine F.ok scFI (fun vs H Q E h => ?_) (fun cdv A outer s H vs Q E hr h => ?_)
  · obtain ⟨r, xs, cs, rfl, _⟩ := h
    rfl
  · refine ⟨_, pss_cons (ps_setLc (i := 3) (own := [("path", 1), ("command", 2)]) (g := gTup K 2 (gCons (gName 1) (gCons (gName 2) gNil))) (tt := tYes) rfl scFI.nd rfl rfl (sw_true rfl rfl rfl (by decide +kernel)) (pi_reversed (by rfl) W.rev (pa_cons (pv 0) pa_nil))
          (blkOk_by (N := nFI) (sc := defScope sFI) (by decide +kernel))
          (fun _ _ _ _ _ => pg_tup rfl (pgs_cons (pg_name (i := 1) scFI.nd rfl (Or.inl rfl)) (pgs_cons (pg_name (i := 2) scFI.nd rfl (Or.inl rfl)) pgs_nil))) (fun _ _ _ _ _ => pts_nil)
          (fun _ _ _ _ _ => pe_tup (pa_cons pe_bl (pa_cons (pv 1) (pa_cons (pv 2) pa_nil)))))
      (pss_cons (ps_while PassesOwn.never (pt_truth (pv 3) (by intro _; rfl))
        (pss_cons (ps_asg (pe_bm0 PySem.F.plainAttrs_list PySem.F.slot_list_pop PySem.F.type_list_pop mt_pop (pv 3)) (pg_tup rfl (pgs_cons (pg_name (i := 4) scFI.nd rfl (Or.inl rfl)) (pgs_cons (pg_name (i := 1) scFI.nd rfl (Or.inr rfl)) (pgs_cons (pg_name (i := 2) scFI.nd rfl (Or.inl rfl)) pgs_nil)))))
        (pss_one (ps_if (pt_val (pv 4))
          (pss_one (ps_if (pt_not (pt_val (pe_call GC hr rfl gC FC.kp bC .nil pass0 (pa_cons (pv 2) pa_nil)))) (pss_one (ps_ret (pv 1))) pss_nil))
          (pss_cons (ps_expr (pe_bm PySem.F.plainAttrs_list PySem.F.slot_list_append PySem.F.type_list_append mt_append (pv 3) (pa_cons (pe_tup (pa_cons pe_bl (pa_cons (pv 1) (pa_cons (pv 2) pa_nil)))) pa_nil)))
          (pss_cons (ps_set (i := 5) scFI.nd rfl (.inl rfl) (pe_call GI (hr.mono (by decide)) rfl gI FI.kp bI .nil pass0 (pa_cons (pv 2) pa_nil)))
          (pss_one (ps_expr (pe_bm PySem.F.plainAttrs_list PySem.F.slot_list_extend PySem.F.type_list_extend mt_extend (pv 3) (pa_cons
            (pe_lc (own := [("way", 6), ("inner", 7)]) (g := gTup K 2 (gCons (gName 6) (gCons (gName 7) gNil))) (tt := tYes) rfl scFI.nd (pi_reversed (by rfl) W.rev (pa_cons (pv 5) pa_nil)) (blkOk_by (N := nFI) (sc := defScope sFI) (by decide +kernel))
                (fun _ _ _ _ _ => pg_tup rfl (pgs_cons (pg_name (i := 6) scFI.nd rfl (Or.inl rfl)) (pgs_cons (pg_name (i := 7) scFI.nd rfl (Or.inl rfl)) pgs_nil))) (fun _ _ _ _ _ => pts_nil)
                (fun _ _ _ _ _ => pe_tup (pa_cons pe_bl (pa_cons (pe_op op_cat (pv 1) (pv 6)) (pa_cons (pv 7) pa_nil))))) pa_nil))))))))))
      (pss_one (ps_ret pe_non))), ?_⟩
    obtain ⟨r, xs, cs, rfl, hq, ac, lc, k⟩ := h
    refine ⟨_, rfl, r, xs, rfl, hq, fun D hD => lc_it (walk_rev (xs := xs)) (fun i H' => Same H H' ∧ ∃ ys, H' D = some (.lst ys) ∧ All2 (Ent K (hide H' D)) ys ((cs.reverse.take i).map fun c => (false, c))) ⟨same_upd hD, [], upd_same, .nil⟩ (fun i H' _ e => e.1.seq hq) (fun i x H' H2 hi e y => ?_) (fun H' e => ?_)⟩
    · obtain ⟨s1, ys, hDy, ay⟩ := e
      obtain ⟨rfl, hx⟩ := y
      obtain ⟨c, hc, t, pa, z, rfl, h1, h2, h3, h4⟩ := ac.at hx
      have hl := ac.len
      have hcr : cs.reverse[i]? = some c := by
        rw [List.getElem?_reverse (by omega), ← hl]
        exact hc
      refine ⟨t, _, rfl, sqT_same s1 h1, rfl, _, _, rfl, _, _, rfl, rfl, rfl, ?_⟩
      refine ⟨_, rfl, _, rfl, (by decide : 3 ≤ sizeLine), fun T nT => ?_⟩
      have sT := same_upd (o := .tup [.bl false, .ref pa, z]) nT
      have TD : T ≠ D := fun z => by
        rw [z, hDy] at nT
        cases nT
      have ly := ay.len
      rw [List.length_map, List.length_take] at ly
      refine ⟨ys, sT _ _ hDy, ?_, same_upd2 (s1.trans sT) hD, _, upd_same, ?_⟩
      · rw [sizeLine_eq]
        omega
      · rw [take_snoc hcr, List.map_append]
        have sX := (hide_mono (W := D) sT).trans (hide_upd (o := .lst (ys ++ [V.ref T])))
        have sY := (hide_of s1 hD).trans sX
        refine (ay.mono fun _ _ h => h.same sX).app (.cons ⟨T, pa, z, rfl, SqT.of (hide_ne (by rw [upd_ne TD]; exact upd_same) TD), ?_, dp_same sY h3, h4⟩ .nil)
        obtain ⟨zs, hz, lz⟩ := h2
        exact ⟨zs, sY _ _ hz, Nat.le_trans lz (pb_ge c).1⟩
    · obtain ⟨s1, ys, hDy, ay⟩ := e
      have hl := ac.len
      rw [List.take_of_length_le (by rw [List.length_reverse]; omega)] at ay
      refine ⟨fun m σ H' => ∃ st, wts st = m ∧ m ≤ 100 ∧ (∃ a b c d e f, σ = [some (.ref r), a, b, some (.ref D), c, d, e, f]) ∧ Same H H' ∧ ∃ ws, H' D = some (.lst ws) ∧ All2 (Ent K (hide H' D)) ws st ∧ st.all stB = cs.all Cm.all,
        ⟨_, (cs.reverse.map fun c => (false, c)), rfl, ?_, ⟨_, _, _, _, _, _, rfl⟩, s1, ys, hDy, ay, ?_⟩, ?_⟩
      · have e : ∀ l : List Cm, wts (l.map fun c => (false, c)) ≤ 6 * l.length := by
          intro l
          induction l with
          | nil => exact Nat.le_refl _
          | cons c l ih =>
            have := inn_le c
            show 2 + 2 * c.inn.length + wts (l.map fun c => (false, c)) ≤ 6 * (l.length + 1)
            omega
        have z := e cs.reverse
        rw [List.length_reverse] at z
        omega
      · rw [List.all_map, List.all_reverse]
        rfl
      · rintro m σ H2 ⟨st, rfl, hm, ⟨v1, v2, v3, v4, v5, v6, rfl⟩, s2, ws, hW, aw, hB⟩
        refine ⟨_, rfl, !ws.isEmpty, .inl ⟨ws, SqL.of hW, rfl⟩, if_by (fun e => ?_) (fun e => ?_)⟩
        · have ne : ws ≠ [] := fun z => by
            rw [z] at e
            cases e
          obtain ⟨ws', y, st', en, rfl, rfl, aw', hy⟩ := aw.last ne
          obtain ⟨t, pa, x, rfl, h1, h2, h3, h4⟩ := hy
          rw [wts_app] at hm
          have lw := wts_len st'
          have lw' := aw'.len
          refine ⟨_, fun σ' H' h => h, ?_⟩
          have hlast : (ws' ++ [V.ref t])[(ws' ++ [V.ref t]).length - 1]? = some (V.ref t) := by simp
          have sP := hide_upd (H := H2) (W := D) (o := .lst ((ws' ++ [V.ref t]).dropLast))
          have e0 : (ws' ++ [V.ref t]).dropLast = ws' := by simp
          have sQ : Same (hide H2 D) (L2.upd H2 D (.lst ((ws' ++ [V.ref t]).dropLast))) := sP.trans hide_same
          refine ⟨_, rfl, .inl ⟨rfl, _, SqL.of hW⟩, D, _, _, rfl, rfl, hW, hlast, t, _, rfl, sqT_same sQ h1, rfl, _, _, rfl, _, _, rfl, _, _, rfl, rfl, ?_⟩
          rw [e0] at sP sQ ⊢
          have s3 : Same H (L2.upd H2 D (.lst ws')) := same_upd2 s2 hD
          obtain ⟨b, c⟩ := en
          cases b with
          | true =>
            refine ⟨_, rfl, true, rfl, if_yes rfl ⟨_, rfl, x, c, rfl, dp_same sQ h3, h4, fun H3 s4 => ⟨_, rfl, ?_⟩⟩⟩
            refine if_by (fun e2 => ?_) (fun e2 => ?_)
            · refine ⟨_, rfl, k H3 _ (s3.trans s4) ?_⟩
              have e3 : c.ok = false := by
                cases q : c.ok with
                | false => rfl
                | true => rw [q] at e2; cases e2
              rw [← hB, List.all_append]
              show false = (_ && (c.ok && true))
              rw [e3, Bool.false_and, Bool.and_false]
            · have e3 : c.ok = true := by
                cases q : c.ok with
                | true => rfl
                | false => rw [q] at e2; cases e2
              refine ⟨wts st', ?_, st', rfl, by omega, ⟨_, _, _, _, _, _, rfl⟩, s3.trans s4, ws', s4 _ _ upd_same, aw'.mono fun _ _ h => h.same (sP.trans (hide_mono s4)), ?_⟩
              · rw [wts_app]
                show wts st' < wts st' + (1 + 0)
                omega
              · rw [← hB, List.all_append]
                show st'.all stB = (st'.all stB && (c.ok && true))
                rw [e3]
                exact (Bool.and_true _).symm
          | false =>
            refine ⟨_, rfl, false, rfl, if_no rfl ?_⟩
            refine ⟨_, rfl, .inl ⟨rfl, _, SqL.of upd_same⟩, _, rfl, _, rfl, (by decide : 3 ≤ sizeLine), fun T nT => ?_⟩
            have sT := same_upd (o := .tup [.bl true, .ref pa, x]) nT
            have TD : T ≠ D := fun z => by
              rw [z, upd_same] at nT
              cases nT
            refine ⟨D, ws', _, rfl, rfl, sT _ _ upd_same, ?_, ?_⟩
            · rw [sizeLine_eq]
              omega
            have sH3 : Same H (L2.upd (L2.upd (L2.upd H2 D (.lst ws')) T (.tup [.bl true, .ref pa, x])) D (.lst (ws' ++ [.ref T]))) := same_upd2 (s3.trans sT) hD
            have sh3 : Same (hide H2 D) (hide (L2.upd (L2.upd (L2.upd H2 D (.lst ws')) T (.tup [.bl true, .ref pa, x])) D (.lst (ws' ++ [.ref T]))) D) := sP.trans ((hide_mono sT).trans hide_upd)
            have hT : hide (L2.upd (L2.upd (L2.upd H2 D (.lst ws')) T (.tup [.bl true, .ref pa, x])) D (.lst (ws' ++ [.ref T]))) D T = some (.tup [.bl true, .ref pa, x]) := hide_ne (by rw [upd_ne TD]; exact upd_same) TD
            have hW3 : (L2.upd (L2.upd (L2.upd H2 D (.lst ws')) T (.tup [.bl true, .ref pa, x])) D (.lst (ws' ++ [.ref T]))) D = some (.lst (ws' ++ [.ref T])) := upd_same
            generalize L2.upd (L2.upd (L2.upd H2 D (.lst ws')) T (.tup [.bl true, .ref pa, x])) D (.lst (ws' ++ [.ref T])) = H3 at sH3 sh3 hT hW3 ⊢
            refine ⟨_, rfl, hide H3 D, x, c, rfl, hide_same, dp_same sh3 h3, h4, fun H4 r4 zs s4 fr hr4 aI => ?_⟩
            have hW4 := s4 _ _ hW3
            have lz := aI.len
            rw [inner_inn, List.length_map] at lz
            have lc2 := inn_le c
            refine ⟨_, rfl, .inl ⟨rfl, _, SqL.of hW4⟩, _, rfl, r4, zs, rfl, SqL.of hr4, fun D2 nD2 => lc_it (walk_rev (xs := zs)) (fun i H' => Same H4 H' ∧ ∃ ys, H' D2 = some (.lst ys) ∧ All2 (Ent K (hide (hide H' D) D2)) ys ((c.inn.reverse.take i).map fun c => (false, c)))
              ⟨same_upd nD2, [], upd_same, .nil⟩ (fun i H' _ e => e.1.seq (SqL.of hr4)) (fun i x' H' H2' hi e y => ?_) (fun H5 e => ?_)⟩
            · obtain ⟨s5, ys, hDy, ay⟩ := e
              obtain ⟨rfl, hx⟩ := y
              obtain ⟨d, hd, t2, wa, z2, rfl, n1, i1, n2, ⟨zs2, i2, l2⟩, i3⟩ := aI.at hx
              rw [inner_inn, List.getElem?_map] at hd
              cases ec : c.inn[zs.length - 1 - i]? with
              | none => rw [ec] at hd; cases hd
              | some c' =>
                rw [ec] at hd
                obtain rfl := Option.some.inj hd
                have mc := List.mem_of_getElem? ec
                have hcr : c.inn.reverse[i]? = some c' := by
                  rw [List.getElem?_reverse (by omega), ← lz]
                  exact ec
                obtain ⟨p1, p2⟩ := pb_inn c' mc
                obtain ⟨zs1, j1, m1⟩ := h2
                have m1 : zs1.length ≤ pb c := m1
                have sD45 := s4.trans s5
                have hpa : H2' pa = some (.lst zs1) := sD45 _ _ (hide_same _ _ (sh3 _ _ j1))
                refine ⟨t2, _, rfl, SqT.of (s5 _ _ i1), rfl, _, _, rfl, _, _, rfl, rfl, rfl, ?_⟩
                refine ⟨_, rfl, _, rfl, pa, wa, zs1, zs2, rfl, rfl, hpa, s5 _ _ i2, ?_, fun q nq => ⟨_, rfl, (by decide : 3 ≤ sizeLine), fun T3 nT3 => ?_⟩⟩
                · rw [sizeLine_eq]
                  omega
                · have sq := same_upd (o := .lst (zs1 ++ zs2)) nq
                  have st3 := same_upd (o := .tup [.bl false, .ref q, z2]) nT3
                  have sA := sq.trans st3
                  have hD5 := s5 _ _ hW4
                  have qD : q ≠ D := fun z => by rw [z, hD5] at nq; cases nq
                  have qD2 : q ≠ D2 := fun z => by rw [z, hDy] at nq; cases nq
                  have tD : T3 ≠ D := fun z => by rw [z, sq _ _ hD5] at nT3; cases nT3
                  have tD2 : T3 ≠ D2 := fun z => by rw [z, sq _ _ hDy] at nT3; cases nT3
                  have ly := ay.len
                  rw [List.length_map, List.length_take, List.length_reverse] at ly
                  refine ⟨ys, sA _ _ hDy, ?_, same_upd2 (s5.trans sA) nD2, _, upd_same, ?_⟩
                  · rw [sizeLine_eq]
                    omega
                  · rw [take_snoc hcr, List.map_append]
                    have sX := (hide_mono (W := D2) (hide_mono (W := D) sA)).trans (hide2_upd (D := D) (W := D2) (o := .lst (ys ++ [V.ref T3])))
                    refine (ay.mono fun _ _ h => h.same sX).app (.cons ⟨T3, q, z2, rfl, SqT.of (hide_ne (hide_ne (by rw [upd_ne tD2]; exact upd_same) tD) tD2), ⟨zs1 ++ zs2, hide_ne (hide_ne (by rw [upd_ne qD2]; exact st3 _ _ upd_same) qD) qD2, ?_⟩, dp_same ((hide_of (hide_mono (W := D) sD45) ?_).trans sX) i3, inn_fit h4 c' mc⟩ .nil)
                    · rw [List.length_append, p2]
                      omega
                    · exact (hide_same.trans s4).free nD2
            · obtain ⟨s5, ys, hDy, ay⟩ := e
              rw [List.take_of_length_le (by rw [List.length_reverse]; omega)] at ay
              have hD5 := s5 _ _ hW4
              have ly := ay.len
              rw [List.length_map, List.length_reverse] at ly
              have wi := wts_nd c.inn.reverse fun d m => inn_nd c d (List.mem_reverse.mp m)
              rw [List.length_reverse] at wi
              have sX := (hide_mono (W := D) (s4.trans s5)).trans (hide_upd (H := H5) (W := D) (o := .lst (ws' ++ [.ref T] ++ ys)))
              have we : wts [((false : Bool), c)] = 2 + 2 * c.inn.length + 0 := rfl
              have wn : wts ((st' ++ [(true, c)]) ++ c.inn.reverse.map fun c => (false, c)) = wts st' + 1 + 2 * c.inn.length := by
                rw [wts_app, wts_app, wi]
                rfl
              rw [we] at hm
              refine ⟨D, D2, _, ys, rfl, rfl, hD5, hDy, ?_, _, ?_, (st' ++ [(true, c)]) ++ c.inn.reverse.map fun c => (false, c), rfl, ?_, ⟨_, _, _, _, _, _, rfl⟩, same_upd2 ((sH3.trans s4).trans s5) hD, _, upd_same, ?_, ?_⟩
              · rw [List.length_append, List.length_singleton, sizeLine_eq]
                omega
              · rw [wn, wts_app, we]
                omega
              · rw [wn]
                omega
              · refine ((aw'.mono fun _ _ h => h.same (sh3.trans sX)).app (.cons ⟨T, pa, x, rfl, SqT.of (sX _ _ hT), h2.same (sh3.trans sX), dp_same (sh3.trans sX) h3, h4⟩ .nil)).app ?_
                exact ay.mono fun _ _ h => h.same (hide_same.trans hide_upd)
              · rw [← hB, List.all_append, List.all_append, List.all_append, List.all_map, List.all_reverse]
                show (st'.all stB && (c.ok && true) && c.inn.all Cm.all) = (st'.all stB && (c.all && true))
                rw [Bool.and_true, Bool.and_true, Bool.and_assoc, all_inn]
        · have e2 : ws = [] := by
            cases ws with
            | nil => rfl
            | cons _ _ => cases e
          subst e2
          have e3 : st = [] := List.length_eq_zero_iff.mp aw.len.symm
          subst e3
          exact k H2 .non s2 (by rw [← hB]; rfl)
end
end Qb
end PySem
namespace PySem
namespace Qb
open PySem.W PySem.Calls PyProof.Rows L2
section
variable {P : Program} {w : World} {K : Frag} {mg : Str → Option Value} {base : Heap}
theorem ok_fwr {f fI : Addr} {fd fdI : FuncData} (F : Fun K "first_wrong" "first_wrong" sFWr f fd) (W : Wrt mg)
    (FI : Fun K "first_wrong_in" "first_wrong_in" sFI fI fdI) (gI : mg "first_wrong_in" = some (.ref fI)) (bI : Binds K fdI ["commands"] []) (GI : FnOk P w K mg base CX0 10 fI fdI ["commands"] (spFI K)) :
    FnOk P w K mg base CX0 11 f fd ["script"] (spTr K fun b u => decide (u = V.non) = b) := by
  refine F.ok scFWr (fun vs H Q E h => ?_) (fun cdv A outer s H vs Q E hr h => ?_)
  · obtain ⟨v, cs, rfl, _⟩ := h
    rfl
  · refine ⟨_, pss_one (ps_ret (pe_call GI hr rfl gI FI.kp bI .nil pass0 (pa_cons
        (pe_lc (own := [("at", 1), ("command", 2)]) (g := gTup K 2 (gCons (gName 1) (gCons (gName 2) gNil))) (tt := tYes) rfl scFWr.nd (pi_enum (by rfl) W.enum (pa_cons (pv 0) pa_nil)) (blkOk_by (N := ["script", "at", "command"]) (sc := defScope sFWr) (by decide +kernel))
          (fun _ _ _ _ _ => pg_tup rfl (pgs_cons (pg_name (i := 1) scFWr.nd rfl (Or.inl rfl)) (pgs_cons (pg_name (i := 2) scFWr.nd rfl (Or.inl rfl)) pgs_nil))) (fun _ _ _ _ _ => pts_nil)
          (fun _ _ _ _ _ => pe_tup (pa_cons (pe_lst (pa_cons (pv 1) pa_nil)) (pa_cons (pv 2) pa_nil)))) pa_nil))), ?_⟩
    obtain ⟨v, cs, rfl, hd, lc, hf, k⟩ := h
    obtain ⟨a, xs, rfl, hq, all⟩ := dp_lst hd
    have lx := dpLen all
    rw [List.length_map] at lx
    refine ⟨_, rfl, a, xs, rfl, hq, fun D hD => lc_it (walk_enum (xs := xs)) (fun i H' => Same H H' ∧ ∃ ys, H' D = some (.lst ys) ∧ All2 (CmdIn K (hide H' D)) ys (cs.take i)) ⟨same_upd hD, [], upd_same, .nil⟩ (fun i H' _ e => e.1.seq hq) (fun i x H' H2 hi e y => ?_) (fun H' e => ?_)⟩
    · obtain ⟨s1, ys, hDy, ay⟩ := e
      obtain ⟨T, x1, x2, rfl, nT, rfl, h1, hx⟩ := y
      obtain ⟨d, hdi, dp⟩ := dpAt' all hx
      rw [List.getElem?_map] at hdi
      cases ep : cs[i]? with
      | none => rw [ep] at hdi; cases hdi
      | some c =>
        rw [ep] at hdi
        obtain rfl := Option.some.inj hdi
        have sT := same_upd (o := .tup [x1, x2]) nT
        refine ⟨T, _, rfl, SqT.of upd_same, rfl, _, _, rfl, _, _, rfl, rfl, rfl, ?_⟩
        refine ⟨_, rfl, (by decide : 1 ≤ sizeLine), fun p np => ⟨_, rfl, (by decide : 2 ≤ sizeLine), fun t nt => ?_⟩⟩
        have sp := same_upd (o := .lst [x1]) np
        have st := same_upd (o := .tup [.ref p, x2]) nt
        have sA := (sT.trans sp).trans st
        have ly := ay.len
        rw [List.length_take] at ly
        have tD : t ≠ D := fun z => by rw [z, sp _ _ (sT _ _ hDy)] at nt; cases nt
        have pD : p ≠ D := fun z => by rw [z, sT _ _ hDy] at np; cases np
        refine ⟨ys, sA _ _ hDy, ?_, same_upd2 (s1.trans sA) hD, _, upd_same, ?_⟩
        · rw [sizeLine_eq]
          omega
        · rw [take_snoc ep]
          have sX := (hide_mono (W := D) sA).trans (hide_upd (o := .lst (ys ++ [V.ref t])))
          refine (ay.mono fun _ _ h => h.same sX).app (.cons ⟨t, p, x2, rfl, SqT.of (hide_ne (by rw [upd_ne tD]; exact upd_same) tD), ⟨[x1], hide_ne (by rw [upd_ne pD]; exact st _ _ upd_same) pD, (by decide : 1 ≤ 10)⟩, dp_same ((hide_of s1 hD).trans sX) dp, hf c (List.mem_of_getElem? ep)⟩ .nil)
    · obtain ⟨s1, ys, hDy, ay⟩ := e
      rw [List.take_of_length_le (Nat.le_of_eq lx.symm)] at ay
      exact ⟨D, ys, cs, rfl, SqL.of hDy, ay.mono fun _ _ h => h.same hide_same, lc, fun H2 u s2 e => k H2 u (s1.trans s2) e⟩
theorem ok_is {f fI : Addr} {fd fdI : FuncData} (F : Fun K "is_script" "is_script" sIS f fd)
    (FI : Fun K "first_wrong" "first_wrong" sFWr fI fdI) (gI : mg "first_wrong" = some (.ref fI)) (bI : Binds K fdI ["script"] []) (GI : FnOk P w K mg base CX0 11 fI fdI ["script"] (spTr K fun b u => decide (u = V.non) = b)) :
    FnOk P w K mg base CX0 12 f fd ["tree"] (spTr K fun b u => u = .bl b) := by
  refine F.ok scIS (fun vs H Q E h => ?_) (fun cdv A outer s H vs Q E hr h => ?_)
  · obtain ⟨v, cs, rfl, _⟩ := h
    rfl
  · refine ⟨_, pss_one (ps_ret (pe_cmpR op_isN (pe_call GI hr rfl gI FI.kp bI .nil pass0 (pa_cons (pv 0) pa_nil)) pe_non (nomark _))), ?_⟩
    obtain ⟨v, cs, rfl, hd, lc, hf, k⟩ := h
    exact ⟨_, rfl, _, cs, rfl, hd, lc, hf, fun H' u s e => ⟨rfl, k H' _ s (congrArg V.bl e)⟩⟩
end
end Qb
end PySem
namespace PySem
namespace Qb
open PySem.W PySem.Calls PyProof.Rows L2
abbrev sState : Stmt := top 65
abbrev sDraw : Stmt := top 66
/-- names of the machine that the text's top leaves as they are -/
structure Blt (mg : Str → Option Value) : Prop where
  abs : mg "abs" = none
  int : mg "int" = none
  len : mg "len" = none
  range : mg "range" = none
  isi : mg "isinstance" = none
/-- the state of the draws: its list at S, the rests at R -/
structure StAt (H : Hp) (S R : Addr) (rs : List Int) (n : Nat) : Prop where
  at_ : H S = some (.lst [.ref R, .int n, .int 14, .int 34])
  rest : H R = some (.lst (rs.map V.int))
  full : rs ≠ []
  few : rs.length ≤ 64
  pos : ∀ r ∈ rs, 0 ≤ r
  soon : n ≤ 1000
  ne : S ≠ R
def spDraw : Sp := fun vs H Q _ => ∃ (S R : Addr) (rs : List Int) (n : Nat) (m : Int), vs = [.ref S, .int m] ∧ 0 < m ∧ m ≤ 10 ^ 30 ∧ n < 1000 ∧ StAt H S R rs n ∧
  ∀ (H' : Hp) (r : Int) (rs' : List Int), 0 ≤ r → r < m → StAt H' S R rs' (n + 1) → (∀ b, b ≠ S → b ≠ R → H' b = H b) → Q (.int r) H'
theorem scDraw : FnScope ["_law_state_here", "_law_many", "_law_at", "_law_worth", "_law_rests", "_law_one", "_law_two", "_law_three"] ["_law_state_here", "_law_many"] (defScope sDraw) :=
  ⟨rfl, rfl, rfl, by decide +kernel, rfl, by decide +kernel, by decide +kernel⟩
section
variable {P : Program} {w : World} {K : Frag} {mg : Str → Option Value} {base : Heap}
theorem sqH {H : Hp} {a : Addr} {xs : List V} (h : H a = some (.lst xs)) : SqL K H a xs := SqL.of h
theorem fmod_at {rs : List Int} {n : Nat} (hf : rs ≠ []) : ∃ j : Nat, j < rs.length ∧ ((n : Int).fmod (rs.length : Int)) = (j : Int) := by
  have h : 0 < rs.length := List.length_pos_iff.mpr hf
  refine ⟨n % rs.length, Nat.mod_lt _ h, ?_⟩
  rw [Int.fmod_eq_emod_of_nonneg _ (by omega)]
  simp
theorem fm0 {m : Int} (h : 0 < m) (a : Int) : 0 ≤ a.fmod m := by
  rw [Int.fmod_eq_emod_of_nonneg _ (by omega)]
  exact Int.emod_nonneg _ (by omega)
theorem fm1 {m : Int} (h : 0 < m) (a : Int) : a.fmod m < m := by
  rw [Int.fmod_eq_emod_of_nonneg _ (by omega)]
  exact Int.emod_lt_of_pos _ h
abbrev st1 (H : Hp) (S R : Addr) (n : Nat) : Hp := upd H S (.lst [V.ref R, V.int (n + 1), V.int 14, V.int 34])
theorem ixN_of {n j : Nat} (h : j < n) : ixN n (j : Int) = some j := by
  unfold ixN
  rw [if_pos (by omega), if_pos (by omega)]
  simp
theorem upd_off {H : Hp} {a b : Addr} {o : HO} (h : b ≠ a) : upd H a o b = H b := upd_ne h
theorem ok_draw {f : Addr} {fd : FuncData} (F : Fun K "_law_draw" "_law_draw" sDraw f fd) (B : Blt mg) : FnOk P w K mg base CX0 1 f fd ["_law_state_here", "_law_many"] spDraw := by
  refine F.ok scDraw (fun vs H Q E h => ?_) (fun cdv A outer s H vs Q E hr h => ?_)
  · obtain ⟨S, R, rs, n, m, rfl, _⟩ := h
    rfl
  · refine ⟨_, pss_cons (ps_set (i := 2) scDraw.nd rfl (.inl rfl) (pe_op op_modN (pe_callTy call_int1 (by rfl) B.int (by decide +kernel) (pa_cons (pe_ix ix_list (pv 0) pe_int (fun _ _ => rfl)) pa_nil))
          (pe_callB call_len (by rfl) B.len PySem.boot_len (pa_cons (pe_ix ix_list (pv 0) pe_int (fun _ _ => rfl)) pa_nil))))
      (pss_cons (ps_asg (pe_op op_add (pe_ix ix_list (pv 0) pe_int (fun _ _ => rfl)) pe_int) (pg_sub (pv 0) pe_int set_list))
      (pss_cons (ps_set (i := 3) scDraw.nd rfl (.inl rfl) (pe_ix ix_list (pe_ix ix_list (pv 0) pe_int (fun _ _ => rfl)) (pv 2) (fun _ _ => rfl)))
      (pss_cons (ps_if (pt_cmpR op_ge (pv 3) (pe_op op_pow pe_int pe_int) (nomark _))
          (pss_cons (ps_set (i := 4) scDraw.nd rfl (.inl rfl) (pe_ix ix_list (pv 0) pe_int (fun _ _ => rfl)))
          (pss_cons (ps_asg (pe_op op_fdivW (pv 3) (pv 1)) (pg_sub (pv 4) (pv 2) set_list))
          (pss_one (ps_ret (pe_op op_modN (pe_callTy call_int1 (by rfl) B.int (by decide +kernel) (pa_cons (pv 3) pa_nil)) (pv 1)))))) pss_nil)
      (pss_cons (ps_set (i := 5) scDraw.nd rfl (.inl rfl) (pe_op op_modN (pe_callTy call_int1 (by rfl) B.int (by decide +kernel)
          (pa_cons (pe_op op_add (pe_op op_add (pe_op op_mul (pv 3) pe_int) (pe_op op_mul (pe_ix ix_list (pv 0) pe_int (fun _ _ => rfl)) pe_int)) pe_int) pa_nil)) pe_int))
      (pss_cons (ps_set (i := 6) scDraw.nd rfl (.inl rfl) (pe_op op_modN (pe_callTy call_int1 (by rfl) B.int (by decide +kernel)
          (pa_cons (pe_op op_add (pe_op op_mul (pv 5) (pv 5)) (pe_op op_mul (pe_ix ix_list (pv 0) pe_int (fun _ _ => rfl)) pe_int)) pa_nil)) pe_int))
      (pss_cons (ps_set (i := 7) scDraw.nd rfl (.inl rfl) (pe_op op_modN (pe_callTy call_int1 (by rfl) B.int (by decide +kernel)
          (pa_cons (pe_op op_add (pe_op op_mul (pv 6) pe_int) (pv 5)) pa_nil)) pe_int))
      (pss_one (ps_ret (pe_op op_modN (pe_callTy call_int1 (by rfl) B.int (by decide +kernel) (pa_cons (pe_op op_fdiv (pv 7) pe_int) pa_nil)) (pv 1)))))))))), ?_⟩
    obtain ⟨S, R, rs, n, m, rfl, m0, m1, n0, T, k⟩ := h
    obtain ⟨hS, hR, hf, hl, hp, hn, hne⟩ := T
    obtain ⟨j, hj, ej⟩ : ∃ j : Nat, j < rs.length ∧ ((n : Int).fmod (rs.length : Int)) = (j : Int) := fmod_at hf
    have lm : (rs.map V.int).length = rs.length := List.length_map ..
    have ln0 : ((rs.length : Nat) : Int) ≠ 0 := by
      have : 0 < rs.length := List.length_pos_iff.mpr hf
      omega
    -- where the draw stands, and its number put on
    refine ⟨_, rfl, S, _, _, _, rfl, rfl, sqH hS, rfl, .inl ⟨_, rfl, _, rfl, S, _, _, _, rfl, rfl, sqH hS, rfl, _, rs.length, rfl, .inl ⟨_, sqH hR, lm.symm⟩, _, _, rfl, rfl, ln0, ?_⟩⟩
    refine ⟨_, rfl, S, _, _, _, rfl, rfl, sqH hS, rfl, _, _, rfl, rfl, _, rfl, S, _, _, _, rfl, rfl, hS, rfl, ?_⟩
    have hS1 : (st1 H S R n) S = some (.lst [V.ref R, V.int (n + 1), V.int 14, V.int 34]) := upd_same
    have hR1 : (st1 H S R n) R = some (.lst (rs.map V.int)) := by
      show upd _ _ _ R = _
      rw [upd_ne (Ne.symm hne)]
      exact hR
    have off1 : ∀ b, b ≠ S → b ≠ R → (st1 H S R n) b = H b := fun b h1 _ => upd_ne h1
    have hw : rs[j]? = some rs[j] := List.getElem?_eq_getElem hj
    have w0 : 0 ≤ rs[j] := hp _ (List.getElem_mem hj)
    generalize rs[j] = wv at hw w0
    have hwV : (rs.map V.int)[j]? = some (V.int wv) := by rw [List.getElem?_map, hw]; rfl
    have hat : atI (rs.map V.int) ((n : Int).fmod (rs.length : Int)) = some (V.int wv) := by
      rw [ej]
      exact atI_nat hwV
    have hix : ixN (rs.map V.int).length ((n : Int).fmod (rs.length : Int)) = some j := by
      rw [ej, lm]
      exact ixN_of hj
    have T1 : StAt (st1 H S R n) S R rs (n + 1) := ⟨hS1, hR1, hf, hl, hp, by omega, hne⟩
    refine ⟨_, rfl, S, _, _, _, rfl, rfl, sqH hS1, rfl, _, rfl, R, _, _, _, rfl, rfl, sqH hR1, hat, ?_⟩
    refine ⟨_, rfl, _, _, rfl, rfl, ⟨by decide, by decide, by decide⟩, _, _, rfl, rfl, _, rfl, ?_⟩
    refine ite2 (fun _ => ?_) (fun _ => ?_)
    · -- a great rest is divided
      refine ⟨_, rfl, S, _, _, _, rfl, rfl, sqH hS1, rfl, ?_⟩
      refine ⟨_, rfl, _, rfl, _, _, rfl, rfl, wide_div (b := 200) m0 (by omega) (by decide) (by decide), _, rfl, _, rfl, R, _, _, _, rfl, rfl, hR1, hix, ?_⟩
      refine ⟨_, rfl, .inl ⟨_, rfl, _, rfl, _, _, rfl, rfl, Int.ne_of_gt m0, ?_⟩⟩
      refine k _ _ (rs.set j (wv / m)) (fm0 m0 _) (fm1 m0 _) ⟨?_, ?_, ?_, ?_, ?_, by omega, hne⟩ (fun b h1 h2 => ?_)
      · rw [upd_ne hne]
        exact T1.at_
      · rw [List.map_set]
        exact upd_same
      · intro e
        have := congrArg List.length e
        rw [List.length_set] at this
        exact hf (List.length_eq_zero_iff.mp this)
      · rw [List.length_set]
        exact hl
      · intro r hr
        rcases List.mem_or_eq_of_mem_set hr with h | h
        · exact hp r h
        · rw [h]
          exact Int.ediv_nonneg w0 (by omega)
      · rw [upd_ne h2]
        exact off1 b h1 h2
    · -- otherwise it is mixed
      have one0 : 0 ≤ (wv * 48271 + ((n : Int) + 1) * 69621 + 17).fmod 2147483647 := fm0 (by decide) _
      have one1 : (wv * 48271 + ((n : Int) + 1) * 69621 + 17).fmod 2147483647 < 2147483647 := fm1 (by decide) _
      refine ⟨_, rfl, _, _, rfl, rfl, .inr ⟨by decide, by decide⟩, _, rfl, S, _, _, _, rfl, rfl, sqH hS1, rfl, _, _, rfl, rfl, .inr ⟨by decide, by decide⟩, _, _, rfl, rfl, _, _, rfl, rfl, .inl ⟨_, rfl, _, _, rfl, rfl, (by show (_ : Int) ≠ 0; decide), ?_⟩⟩
      refine ⟨_, rfl, _, rfl, _, _, rfl, rfl, .inl ⟨Int.lt_of_lt_of_le (by decide) one0, Int.lt_trans one1 (by decide)⟩, _, rfl, S, _, _, _, rfl, rfl, sqH hS1, rfl, _, _, rfl, rfl, .inr ⟨by decide, by decide⟩, _, _, rfl, rfl, .inl ⟨_, rfl, _, _, rfl, rfl, (by show (_ : Int) ≠ 0; decide), ?_⟩⟩
      refine ⟨_, rfl, _, _, rfl, rfl, .inr ⟨by decide, by decide⟩, _, rfl, _, _, rfl, rfl, .inl ⟨_, rfl, _, _, rfl, rfl, (by show (_ : Int) ≠ 0; decide), ?_⟩⟩
      refine ⟨_, rfl, _, _, rfl, rfl, ⟨by decide, by decide⟩, .inl ⟨_, rfl, _, rfl, _, _, rfl, rfl, Int.ne_of_gt m0, ?_⟩⟩
      exact k _ _ rs (fm0 m0 _) (fm1 m0 _) T1 off1
end
end Qb
end PySem
namespace PySem
namespace Qb
open PySem.W PySem.Calls PyProof.Rows L2
def cellOf (c : Int) : Int := 2 * (if c < 0 then -c else c) + (if decide (c < 0) = true then 1 else 0)
theorem cellOf_pos (c : Int) : 0 ≤ cellOf c := by
  unfold cellOf
  by_cases h : c < 0
  · rw [if_pos h, if_pos (decide_eq_true h)]
    omega
  · rw [if_neg h, if_neg (by simpa using h)]
    omega
def spState (K : Frag) : Sp := fun vs H Q _ => ∃ (a : Addr) (ns : List Int), vs = [.ref a] ∧ SqL K H a (ns.map V.int) ∧ ns.length ≤ 63 ∧
  ∀ (H' : Hp) (S R : Addr) (rs : List Int), StAt H' S R rs 0 → H S = none → H R = none → Same H H' → Q (.ref S) H'
theorem scState : FnScope ["_law_script", "_law_rests", "_law_cell"] ["_law_script"] (defScope sState) :=
  ⟨rfl, rfl, rfl, by decide +kernel, rfl, by decide +kernel, by decide +kernel⟩
theorem dpInts {K : Frag} {H : Hp} : ∀ ms : List Int, DpAll K H (ms.map V.int) (ms.map PyData.int)
  | [] => .nil
  | m :: ms => .cons (.int m) (dpInts ms)
section
variable {P : Program} {w : World} {K : Frag} {mg : Str → Option Value} {base : Heap}
theorem ok_state {f : Addr} {fd : FuncData} (F : Fun K "_law_state" "_law_state" sState f fd) (B : Blt mg) : FnOk P w K mg base CX0 1 f fd ["_law_script"] (spState K) := by
  refine F.ok scState (fun vs H Q E h => ?_) (fun cdv A outer s H vs Q E hr h => ?_)
  · obtain ⟨a, ns, rfl, _⟩ := h
    rfl
  · refine ⟨_, pss_cons (ps_setLc (i := 1) (own := [("_law_cell", 2)]) (g := gName 2) (tt := tYes) rfl scState.nd rfl rfl (sw_true rfl rfl rfl (by decide +kernel)) (pi_list (pv 0)) (blkOk_by (N := ["_law_script", "_law_rests", "_law_cell"]) (sc := defScope sState) (by decide +kernel))
        (fun _ _ _ _ _ => pg_name (i := 2) scState.nd rfl (Or.inl rfl)) (fun _ _ _ _ _ => pts_nil)
        (fun _ _ _ _ _ => pe_op op_add (pe_op op_mul pe_int (pe_callB call_abs (by rfl) B.abs (by decide +kernel) (pa_cons (pv 2) pa_nil)))
          (pe_callTy call_int1 (by rfl) B.int (by decide +kernel) (pa_cons (pe_cmpR op_lt (pv 2) pe_int (nomark _)) pa_nil))))
      (pss_cons (ps_if (pt_cmpR (op_eqD hr.units) (pv 1) (pe_lst pa_nil) (nomark _)) (pss_one (ps_set (i := 1) scState.nd rfl (.inl rfl) (pe_lst (pa_cons pe_int pa_nil)))) pss_nil)
      (pss_one (ps_ret (pe_lst (pa_cons (pv 1) (pa_cons pe_int (pa_cons pe_int (pa_cons pe_int pa_nil)))))))), ?_⟩
    obtain ⟨a, ns, rfl, hS, hl, k⟩ := h
    refine ⟨_, rfl, a, rfl, ⟨_, hS⟩, fun D hD => lc_list (K := K) (xs := ns.map V.int) (fun i H' => H' = upd H D (.lst (((ns.take i).map cellOf).map V.int))) (by simp) (fun i H' _ e => ?_) (fun i x H' hi e => ?_) (fun H' e => ?_)⟩
    · rw [e]
      exact (same_upd hD).seq hS
    · obtain ⟨c, hc, rfl⟩ : ∃ c, ns[i]? = some c ∧ x = V.int c := by
        rw [List.getElem?_map] at hi
        cases z : ns[i]? with
        | none => rw [z] at hi; cases hi
        | some c => rw [z] at hi; exact ⟨c, rfl, (Option.some.inj hi).symm⟩
      have hlen : ns.length ≤ 63 := hl
      subst e
      refine ⟨rfl, ?_⟩
      refine ⟨_, rfl, _, rfl, _, _, rfl, rfl, .inl ⟨by decide, by decide⟩, _, rfl, _, _, rfl, rfl, .inr ⟨_, rfl, _, _, rfl, rfl, ?_⟩⟩
      refine ⟨_, upd_same, ?_, ?_⟩
      · rw [List.length_map, List.length_map]
        have z : (ns.take i).length ≤ 63 := by
          rw [List.length_take]
          omega
        exact Nat.lt_of_le_of_lt z (by decide)
      · rw [upd_upd, take_snoc hc, List.map_append, List.map_append]
        rfl
    · subst e
      rw [List.length_map, List.take_length]
      generalize hms : ns.map cellOf = ms
      have mpos : ∀ r ∈ ms, 0 ≤ r := by
        rw [← hms]
        intro r hr
        obtain ⟨c, _, rfl⟩ := List.mem_map.mp hr
        exact cellOf_pos c
      have mlen : ms.length ≤ 63 := by
        rw [← hms, List.length_map]
        exact hl
      have sD : Same H (upd H D (.lst (ms.map V.int))) := same_upd hD
      refine ⟨_, rfl, (by decide : 0 ≤ sizeLine), fun p np => ?_⟩
      have hDp : D ≠ p := fun e => by
        rw [e, upd_same] at np
        cases np
      have np0 : H p = none := sD.free np
      refine ⟨.list (ms.map PyData.int), .list [], .lst (SqL.of (by rw [upd_ne hDp]; exact upd_same)) (dpInts ms), .lst (SqL.of upd_same) .nil, PySem.W.shaped_ints ms, by decide, _, rfl, ?_⟩
      have sp : Same H (upd (upd H D (.lst (ms.map V.int))) p (.lst [])) := same_upd2 sD np0
      cases ms with
      | nil =>
        refine ⟨(by decide : 1 ≤ sizeLine), fun R nR => ?_⟩
        refine ⟨_, rfl, (by decide : 4 ≤ sizeLine), fun S nS => ?_⟩
        have hRS : R ≠ S := fun e => by
          rw [e, upd_same] at nS
          cases nS
        have nR0 : H R = none := sp.free nR
        have sR := same_upd2 (o := .lst [V.int 0]) sp nR0
        have nS0 : H S = none := sR.free nS
        exact k _ S R [0] ⟨upd_same, by rw [upd_ne hRS]; exact upd_same, by simp, by simp, by simp, by decide, Ne.symm hRS⟩ nS0 nR0 (same_upd2 sR nS0)
      | cons m ms =>
        refine ⟨_, rfl, (by decide : 4 ≤ sizeLine), fun S nS => ?_⟩
        have hDS : D ≠ S := fun e => by
          rw [e.symm, upd_ne hDp, upd_same] at nS
          cases nS
        have nS0 : H S = none := sp.free nS
        exact k _ S D (m :: ms) ⟨upd_same, by rw [upd_ne hDS, upd_ne hDp]; exact upd_same, by simp, by omega, mpos, by decide, Ne.symm hDS⟩ nS0 hD (same_upd2 sp nS0)
end
end Qb
end PySem
namespace PySem
namespace Qb
open PySem.W PySem.Calls PyProof.Rows L2
/-! # what the law draws -/
def U (S R : Addr) (H : Hp) : Hp := hide (hide H S) R
theorem U_back {S R : Addr} {H : Hp} : Same (U S R H) H := hide_same.trans hide_same
theorem U_same {S R : Addr} {H H' : Hp} (s : Same H H') : Same (U S R H) (U S R H') := hide_mono (hide_mono s)
theorem U_get {S R b : Addr} {H : Hp} {o : HO} (h : U S R H b = some o) : b ≠ S ∧ b ≠ R ∧ H b = some o := by
  refine ⟨fun z => ?_, fun z => ?_, U_back _ _ h⟩
  · have h1 := hide_same _ _ h
    unfold hide at h1
    rw [if_pos z] at h1
    cases h1
  · unfold U hide at h
    rw [if_pos z] at h
    cases h
theorem U_set {S R b : Addr} {H : Hp} {o : HO} (h : H b = some o) (n1 : b ≠ S) (n2 : b ≠ R) : U S R H b = some o := hide_ne (hide_ne h n1) n2
theorem U_off {S R : Addr} {H H' : Hp} (off : ∀ b, b ≠ S → b ≠ R → H' b = H b) : Same (U S R H) (U S R H') := fun b o h => by
  obtain ⟨n1, n2, h⟩ := U_get h
  exact U_set (by rw [off b n1 n2]; exact h) n1 n2
theorem U_none {S R b : Addr} {H : Hp} (h : H b = none) : U S R H b = none := by
  cases z : U S R H b with
  | none => rfl
  | some o => rw [(U_get z).2.2] at h; cases h
theorem U_upd2 {S R D : Addr} {H H1 : Hp} {o : HO} (s : Same (U S R H) (U S R H1)) (h : H D = none) : Same (U S R H) (U S R (L2.upd H1 D o)) := fun b u e => by
  have ne : b ≠ D := fun z => by rw [z, U_none h] at e; cases e
  obtain ⟨n1, n2, h1⟩ := U_get (s _ _ e)
  exact U_set (by rw [upd_ne ne]; exact h1) n1 n2
def St (H : Hp) (S R : Addr) (n : Nat) : Prop := ∃ rs m, StAt H S R rs m ∧ m ≤ n
theorem St.same {H H' : Hp} {S R : Addr} {n : Nat} (h : St H S R n) (s : Same H H') : St H' S R n := by
  obtain ⟨rs, m, T, l⟩ := h
  exact ⟨rs, m, ⟨s _ _ T.at_, s _ _ T.rest, T.full, T.few, T.pos, T.soon, T.ne⟩, l⟩
theorem St.le {H : Hp} {S R : Addr} {n k : Nat} (h : St H S R n) (l : n ≤ k) : St H S R k := by
  obtain ⟨rs, m, T, l'⟩ := h
  exact ⟨rs, m, T, Nat.le_trans l' l⟩
theorem St.ne {H : Hp} {S R D : Addr} {n : Nat} (h : St H S R n) (hD : H D = none) : D ≠ S ∧ D ≠ R := by
  obtain ⟨rs, m, T, l⟩ := h
  exact ⟨(fun z => by rw [z, T.at_] at hD; cases hD), (fun z => by rw [z, T.rest] at hD; cases hD)⟩
theorem St.upd {H : Hp} {S R D : Addr} {n : Nat} {o : HO} (h : St H S R n) (hD : D ≠ S ∧ D ≠ R) : St (L2.upd H D o) S R n := by
  obtain ⟨rs, m, T, l⟩ := h
  exact ⟨rs, m, ⟨by rw [upd_ne (Ne.symm hD.1)]; exact T.at_, by rw [upd_ne (Ne.symm hD.2)]; exact T.rest, T.full, T.few, T.pos, T.soon, T.ne⟩, l⟩
theorem drew {H H' : Hp} {S R : Addr} {n j : Nat} {r : Int} {rs : List Int} (h0 : 0 ≤ r) (T : StAt H' S R rs (j + 1)) (l : j ≤ n) (off : ∀ b, b ≠ S → b ≠ R → H' b = H b) : ∃ q : Nat, r = q ∧ St H' S R (n + 1) ∧ Same (U S R H) (U S R H') :=
  ⟨r.toNat, by omega, ⟨rs, j + 1, T, by omega⟩, U_off off⟩
theorem le30 {m : Int} (h : m ≤ 1000) : m ≤ 10 ^ 30 := Int.le_trans h (by decide)
abbrev sSig : Stmt := top 67
abbrev sNm : Stmt := top 69
abbrev sBr : Stmt := top 71
abbrev sLN : Stmt := top 72
abbrev sLK : Stmt := top 73
abbrev sDr : Stmt := top 74
abbrev nSig : List Str := ["_law_state_here", "_law_some", "_law_least", "_law_most", "_law_many", "_law_k"]
abbrev nNm : List Str := ["_law_state_here", "_law_some", "_law_words", "_law_pick"]
abbrev nBr : List Str := ["_law_state_here", "_law_words", "_law_pick", "_law_some"]
abbrev nDr : List Str := ["_law_state_here", "_law_keys", "_law_pick"]
theorem scSig : FnScope nSig ["_law_state_here", "_law_some", "_law_least", "_law_most"] (defScope sSig) := ⟨rfl, rfl, rfl, by decide +kernel, rfl, by decide +kernel, by decide +kernel⟩
theorem scNm : FnScope nNm ["_law_state_here"] (defScope sNm) := ⟨rfl, rfl, rfl, by decide +kernel, rfl, by decide +kernel, by decide +kernel⟩
theorem scBr : FnScope nBr ["_law_state_here"] (defScope sBr) := ⟨rfl, rfl, rfl, by decide +kernel, rfl, by decide +kernel, by decide +kernel⟩
theorem scLN : FnScope ["_law_told", "_law_some", "_law_sign"] ["_law_told"] (defScope sLN) := ⟨rfl, rfl, rfl, by decide +kernel, rfl, by decide +kernel, by decide +kernel⟩
theorem scLK : FnScope ["_law_told", "_law_keys"] ["_law_told"] (defScope sLK) := ⟨rfl, rfl, rfl, by decide +kernel, rfl, by decide +kernel, by decide +kernel⟩
theorem scDr : FnScope nDr ["_law_state_here"] (defScope sDr) := ⟨rfl, rfl, rfl, by decide +kernel, rfl, by decide +kernel, by decide +kernel⟩
def rLen1 (K : Frag) : List V → Hp → VK → Prop := fun xs H Q => ∃ x n, xs = [x] ∧ LenV K x H n ∧ Q (.int n) H
def spSig : Sp := fun vs H Q _ => ∃ (S R : Addr) (n : Nat) (sm : Str) (lo hi : Nat), vs = [.ref S, .str sm, .int lo, .int hi] ∧ lo ≤ hi ∧ hi ≤ 20 ∧ 0 < sm.length ∧ sm.length ≤ 500 ∧ n ≤ 900 ∧ St H S R n ∧
  ∀ H' x, St H' S R (n + 1 + hi) → Same (U S R H) (U S R H') → (∀ c ∈ cs x, c ∈ cs sm) → lo ≤ x.length → x.length ≤ hi → Q (.str x) H'
section
variable {P : Program} {w : World} {K : Frag} {mg : Str → Option Value} {base : Heap}
theorem cs_one (c : Nat) : cs (⟨#[c]⟩ : Str) = [c] := rfl
theorem cs_app (x y : Str) : cs (x ++ y) = cs x ++ cs y := by
  show (x.cps ++ y.cps).toList = _
  simp
theorem joinL_one : ∀ ts : List Str, (∀ t ∈ ts, ∃ c, t = (⟨#[c]⟩ : Str)) → (TL.joinL [] (ts.map TL.tl)).length = ts.length ∧ ∀ c ∈ TL.joinL [] (ts.map TL.tl), (⟨#[c]⟩ : Str) ∈ ts
  | [], _ => ⟨rfl, fun c m => by cases m⟩
  | [t], h => by
    obtain ⟨c, rfl⟩ := h t (.head _)
    refine ⟨rfl, fun d m => ?_⟩
    have m : d ∈ [c] := m
    rcases List.mem_singleton.mp m with rfl
    exact .head _
  | t :: u :: r, h => by
    obtain ⟨c, rfl⟩ := h t (.head _)
    have ih := joinL_one (u :: r) fun x m => h x (.tail _ m)
    refine ⟨?_, fun d m => ?_⟩
    · show ([c] ++ ([] ++ TL.joinL [] ((u :: r).map TL.tl))).length = _
      rw [List.length_append, List.nil_append, ih.1]
      show 1 + _ = _ + 1
      omega
    · have m : d ∈ [c] ++ ([] ++ TL.joinL [] ((u :: r).map TL.tl)) := m
      rcases List.mem_append.mp m with m | m
      · rcases List.mem_singleton.mp m with rfl
        exact .head _
      · exact .tail _ (ih.2 d m)
theorem join_one (ts : List Str) (h : ∀ t ∈ ts, ∃ c, t = (⟨#[c]⟩ : Str)) : (cs (Txt.join "" ts)).length = ts.length ∧ ∀ c ∈ cs (Txt.join "" ts), (⟨#[c]⟩ : Str) ∈ ts := by
  rw [TL.join_eq]
  have e : cs (Str.join "" ts) = TL.joinL [] (ts.map TL.tl) := TL.tl_join "" ts
  rw [e]
  exact joinL_one ts h
theorem ok_sig {f fD : Addr} {fd fdD : FuncData} (F : Fun K "_law_signs" "_law_signs" sSig f fd) (B : Blt mg) (FD : Fun K "_law_draw" "_law_draw" sDraw fD fdD) (gD : mg "_law_draw" = some (.ref fD)) (bD : Binds K fdD ["_law_state_here", "_law_many"] []) :
    FnOk P w K mg base CX0 2 f fd ["_law_state_here", "_law_some", "_law_least", "_law_most"] spSig := by
  have GD : FnOk P w K mg base CX0 1 fD fdD ["_law_state_here", "_law_many"] spDraw := ok_draw FD B
  refine F.ok scSig (fun vs H Q E h => ?_) (fun cdv A outer s H vs Q E hr h => ?_)
  · obtain ⟨S, R, n, sm, lo, hi, rfl, _⟩ := h
    rfl
  · refine ⟨_, pss_cons (ps_set (i := 4) scSig.nd rfl (.inl rfl) (pe_op op_add (pv 2) (pe_call GD hr rfl gD FD.kp bD .nil pass0 (pa_cons (pv 0) (pa_cons (pe_op op_add (pe_op op_sub (pv 3) (pv 2)) pe_int) pa_nil)))))
      (pss_one (ps_ret (pe_join pe_str (pe_lc (te := tOp rIxS (tVar 1) (tCall spDraw [] E0 (tCons (tVar 0) (tCons (tCB (rLen1 K) (tCons (tVar 1) tNil)) tNil)))) (own := [("_law_k", 5)]) (g := gName 5) (tt := tYes) rfl scSig.nd (pi_range1 (by rfl) B.range (pa_cons (pv 4) pa_nil)) (blkOk_by (N := nSig) (sc := defScope sSig) (by decide +kernel))
        (fun _ _ _ _ _ => pg_name (i := 5) scSig.nd rfl (Or.inl rfl)) (fun _ _ _ _ _ => pts_nil)
        (fun _ _ _ _ _ => pe_ix ix_str (pv 1) (pe_call GD hr rfl gD FD.kp bD .nil pass0 (pa_cons (pv 0) (pa_cons (pe_callB call_len (by rfl) B.len PySem.boot_len (pa_cons (pv 1) pa_nil)) pa_nil))) (fun _ _ => rfl)))))), ?_⟩
    obtain ⟨S, R, n, sm, lo, hi, rfl, hlh, hh, h0, hs, hn, T, k⟩ := h
    have hz : sm.length ≤ sizeLine := by
      rw [sizeLine_eq]
      omega
    obtain ⟨rs0, j0, T0, l0⟩ := T
    refine ⟨_, rfl, _, rfl, _, rfl, _, rfl, _, _, rfl, rfl, _, _, rfl, rfl, S, R, rs0, j0, _, rfl, by omega, le30 (by omega), by omega, T0, fun H1 r0 rs1 z0 hr1 z2 z3 => ?_⟩
    obtain ⟨r, rfl, T1, s1⟩ := drew z0 z2 l0 z3
    refine ⟨_, _, rfl, rfl, ?_⟩
    have em : ((lo : Int) + (r : Int)).toNat = lo + r := by omega
    refine ⟨⟨_, rfl⟩, _, rfl, _, rfl, by omega, by omega, fun D hD => ?_⟩
    have hDU : U S R H D = none := s1.free (U_none hD)
    refine lc_it (walk_range (lo := 0) (n := ((lo : Int) + (r : Int)).toNat))
      (fun i H' => St H' S R (n + 1 + i) ∧ Same (U S R H) (U S R H') ∧ ∃ ts : List Str, H' D = some (.lst (ts.map V.str)) ∧ ts.length = i ∧ ∀ t ∈ ts, ∃ c, t = (⟨#[c]⟩ : Str) ∧ c ∈ cs sm) ⟨T1.upd (T1.ne hD), ?_, [], upd_same, rfl, fun t m => by cases m⟩ (fun _ _ _ _ => trivial) (fun i x H' H2 hi e y => ?_) (fun H' e => ?_)
    · exact fun b u e => by
        have y := s1 b u e
        obtain ⟨n1, n2, h1⟩ := U_get y
        exact U_set (by rw [upd_ne (ne_of_none h1 hD)]; exact h1) n1 n2
    · obtain ⟨⟨rs2, j2, T2, l2⟩, s2, ts, hDt, hlt, hts⟩ := e
      obtain ⟨rfl, rfl⟩ := y
      refine ⟨rfl, _, rfl, _, rfl, _, rfl, .str sm, sm.length, rfl, ⟨hz, rfl⟩, S, R, rs2, j2, _, rfl, by omega, le30 (by omega), by omega, T2, fun H3 r0 rs3 z0 hq z2 z3 => ?_⟩
      obtain ⟨q, rfl, T3, s3⟩ := drew z0 z2 l2 z3
      obtain ⟨c, hc⟩ : ∃ c, (cs sm)[q]? = some c := ⟨_, List.getElem?_eq_getElem (by have := len_cs sm; omega)⟩
      obtain ⟨dS, dR⟩ := T1.ne hD
      have hD3 : H3 D = some (.lst (ts.map V.str)) := by
        rw [z3 D dS dR]
        exact hDt
      refine ⟨sm, _, c, rfl, rfl, hz, atI_nat hc, _, hD3, ?_, (T3.upd ⟨dS, dR⟩).le (by omega), ?_, ts ++ [⟨#[c]⟩], ?_, ?_, ?_⟩
      · rw [List.length_map, sizeLine_eq]
        omega
      · have sU := s2.trans s3
        exact fun b u e => by
          have y := sU b u e
          obtain ⟨n1, n2, h1⟩ := U_get y
          have ne : b ≠ D := fun z => by
            rw [z] at e
            exact absurd e (by rw [hDU]; simp)
          exact U_set (by rw [upd_ne ne]; exact h1) n1 n2
      · rw [upd_same, List.map_append]
        rfl
      · rw [List.length_append, List.length_singleton, hlt]
      · intro t m
        rcases List.mem_append.mp m with m | m
        · exact hts t m
        · rcases List.mem_singleton.mp m with rfl
          exact ⟨c, rfl, List.mem_of_getElem? hc⟩
    · obtain ⟨T2, s2, ts, hDt, hlt, hts⟩ := e
      have z := join_one ts fun t m => by
        obtain ⟨c, e, _⟩ := hts t m
        exact ⟨c, e⟩
      have sing : ∀ l : List Str, (∀ t ∈ l, ∃ c, t = (⟨#[c]⟩ : Str)) → (l.map fun t => t.length).sum = l.length := by
        intro l
        induction l with
        | nil => intro _; rfl
        | cons t l ih =>
          intro h
          obtain ⟨c, rfl⟩ := h t (.head _)
          rw [List.map_cons, List.sum_cons, ih fun x m => h x (.tail _ m), List.length_cons]
          show 1 + l.length = l.length + 1
          omega
      have sm1 := sing ts fun t m => by
        obtain ⟨c, e, _⟩ := hts t m
        exact ⟨c, e⟩
      have lj : (Txt.join "" ts).length = ts.length := by rw [len_cs]; exact z.1
      refine ⟨"", D, ts, rfl, rfl, .inl (SqL.of hDt), ?_, k H' _ (T2.le (by omega)) s2 (fun c m => ?_) (by omega) (by omega)⟩
      · rw [sm1, hlt]
        show _ + _ * 0 ≤ _
        omega
      · obtain ⟨c', e, mc⟩ := hts _ (z.2 c m)
        have e1 : cs (⟨#[c]⟩ : Str) = cs (⟨#[c']⟩ : Str) := congrArg cs e
        have e2 : c = c' := by
          rw [cs_one, cs_one] at e1
          exact List.head_eq_of_cons_eq e1
        rw [e2]
        exact mc
end
end Qb
end PySem
namespace PySem
namespace Qb
open PySem.W PySem.Calls PyProof.Rows L2
theorem tw_all {p : Nat → Bool} : ∀ {r : List Nat}, (∀ d ∈ r, p d = true) → r.takeWhile p = r
  | [], _ => rfl
  | d :: r, h => by
    rw [List.takeWhile_cons_of_pos (h d (.head _)), tw_all fun e m => h e (.tail _ m)]
theorem tw_full {p : Nat → Bool} : ∀ {r : List Nat}, (r.takeWhile p).length = r.length → ∀ d ∈ r, p d = true
  | [], _ => fun d m => by cases m
  | d :: r, h => by
    by_cases hd : p d = true
    · rw [List.takeWhile_cons_of_pos hd, List.length_cons, List.length_cons] at h
      intro e m
      rcases List.mem_cons.mp m with rfl | m
      · exact hd
      · exact tw_full (Nat.succ.inj h) e m
    · rw [List.takeWhile_cons_of_neg hd] at h
      cases h
theorem tw_pre {p : Nat → Bool} : ∀ (r q : List Nat), r.length ≤ ((r ++ q).takeWhile p).length → ∀ d ∈ r, p d = true
  | [], _, _ => fun d m => by cases m
  | d :: r, q, h => by
    by_cases hd : p d = true
    · rw [List.cons_append, List.takeWhile_cons_of_pos hd, List.length_cons, List.length_cons] at h
      intro e m
      rcases List.mem_cons.mp m with rfl | m
      · exact hd
      · exact tw_pre r q (Nat.le_of_succ_le_succ h) e m
    · rw [List.cons_append, List.takeWhile_cons_of_neg hd] at h
      cases h
theorem tw_stop {p : Nat → Bool} : ∀ (r : List Nat) (c : Nat) (q : List Nat), (∀ d ∈ r, p d = true) → p c = false → (r ++ c :: q).takeWhile p = r
  | [], c, q, _, hc => List.takeWhile_cons_of_neg (by rw [hc]; decide)
  | d :: r, c, q, h, hc => by
    rw [List.cons_append, List.takeWhile_cons_of_pos (h d (.head _)), tw_stop r c q (fun e m => h e (.tail _ m)) hc]
theorem name_iff (l : List Nat) : isNameB l = true ↔ ∃ c r, l = c :: r ∧ c ∈ cs startS ∧ ∀ d ∈ r, d ∈ cs nameS := by
  cases l with
  | nil => exact ⟨(fun z => by cases z), (fun ⟨_, _, e, _⟩ => by cases e)⟩
  | cons c r =>
    have e0 : isNameB (c :: r) = (nameLen (c :: r) == r.length + 1) := rfl
    rw [e0]
    by_cases hc : c ∈ cs startS
    · rw [show nameLen (c :: r) = 1 + (r.takeWhile fun d => decide (d ∈ cs nameS)).length from if_pos hc]
      constructor
      · intro z
        have y := of_decide_eq_true (by simpa using z : decide (1 + (r.takeWhile fun d => decide (d ∈ cs nameS)).length = r.length + 1) = true)
        exact ⟨c, r, rfl, hc, fun d m => of_decide_eq_true (tw_full (p := fun d => decide (d ∈ cs nameS)) (by omega) d m)⟩
      · rintro ⟨c', r', e, _, h⟩
        obtain ⟨rfl, rfl⟩ := List.cons.inj e
        rw [tw_all (p := fun d => decide (d ∈ cs nameS)) fun d m => decide_eq_true (h d m)]
        simp
        omega
    · rw [show nameLen (c :: r) = 0 from if_neg hc]
      constructor
      · intro z
        simp at z
      · rintro ⟨c', r', e, h, _⟩
        obtain ⟨rfl, rfl⟩ := List.cons.inj e
        exact absurd h hc
theorem start_name : ∀ c ∈ cs startS, c ∈ cs nameS := by decide +kernel
theorem name_bare : ∀ c ∈ cs nameS, c ∈ cs bareS := by decide +kernel
theorem eq_no_name : ¬ (61 ∈ cs nameS) := by decide +kernel
theorem name_all {l : List Nat} (h : isNameB l = true) : ∀ d ∈ l, d ∈ cs nameS := by
  obtain ⟨c, r, rfl, hc, hr⟩ := (name_iff l).mp h
  intro d m
  rcases List.mem_cons.mp m with rfl | m
  · exact start_name _ hc
  · exact hr d m
theorem bare_of {l : List Nat} (ne : l ≠ []) (h : ∀ c ∈ l, c ∈ cs bareS) : isBareB l = true := by
  unfold isBareB
  cases l with
  | nil => exact absurd rfl ne
  | cons c r =>
    show (true && _) = true
    rw [Bool.true_and, List.all_eq_true]
    exact fun d m => decide_eq_true (h d m)
theorem bare_to {l : List Nat} (h : isBareB l = true) : l ≠ [] ∧ ∀ c ∈ l, c ∈ cs bareS := by
  unfold isBareB at h
  rw [Bool.and_eq_true, List.all_eq_true] at h
  exact ⟨(fun z => by rw [z] at h; cases h.1), fun c m => of_decide_eq_true (h.2 c m)⟩
theorem bare_ok {x : Str} (h : ∀ c ∈ cs x, c ∈ cs bareS) : PyData.strOk x = true := by
  unfold PyData.strOk
  have e : ∀ c ∈ cs bareS, c < 1114112 := by decide +kernel
  rw [Array.all_eq_true']
  exact fun c m => decide_eq_true (e c (h c (by simpa using m)))
theorem bare_quote {x : Str} (h : ∀ c ∈ cs x, c ∈ cs bareS) : ¬ (39 ∈ cs x) := fun m => absurd (h 39 m) (by decide +kernel)
/-- where a text begins like a set -/
theorem begins_at {p q : List Nat} (h : ¬ (61 ∈ p)) : beginsB (p ++ 61 :: q) = isNameB p := by
  have key : ∀ b : Bool, (b = true ↔ isNameB p = true) → b = isNameB p := fun b e => by
    cases b with
    | true => exact (e.mp rfl).symm
    | false =>
      cases z : isNameB p with
      | false => rfl
      | true => exact absurd (e.mpr z) (by simp)
  refine key _ ?_
  unfold beginsB
  rw [Bool.and_eq_true]
  cases p with
  | nil =>
    have hn : ¬ (61 ∈ cs startS) := by decide +kernel
    have e : nameLen (61 :: q) = 0 := by
      show (if 61 ∈ cs startS then 1 + (q.takeWhile fun d => decide (d ∈ cs nameS)).length else 0) = 0
      rw [if_neg hn]
    show (decide (0 < nameLen (61 :: q)) = true ∧ _) ↔ _
    rw [e]
    exact ⟨(fun z => by cases z.1), (fun z => by cases z)⟩
  | cons c r =>
    by_cases hc : c ∈ cs startS
    · have e : nameLen (c :: r ++ 61 :: q) = 1 + ((r ++ 61 :: q).takeWhile fun d => decide (d ∈ cs nameS)).length := if_pos hc
      rw [e]
      constructor
      · rintro ⟨_, z⟩
        refine (name_iff _).mpr ⟨c, r, rfl, hc, ?_⟩
        have z : (c :: (r ++ 61 :: q))[1 + ((r ++ 61 :: q).takeWhile fun d => decide (d ∈ cs nameS)).length]? = some 61 := by simpa using z
        rw [Nat.add_comm, List.getElem?_cons_succ] at z
        -- the sign there is no sign of names, so all of r are
        intro d m
        refine Classical.byContradiction fun hd => ?_
        have hlt : ((r ++ 61 :: q).takeWhile fun d => decide (d ∈ cs nameS)).length < r.length := by
          refine Nat.lt_of_not_le fun hle => hd ?_
          have := tw_pre (p := fun d => decide (d ∈ cs nameS)) r (61 :: q) hle
          exact of_decide_eq_true (this d m)
        rw [List.getElem?_append_left hlt] at z
        exact h (.tail _ (List.mem_of_getElem? z))
      · intro z
        obtain ⟨c', r', e', _, hr⟩ := (name_iff _).mp z
        obtain ⟨rfl, rfl⟩ := List.cons.inj e'
        have e2 : (r ++ 61 :: q).takeWhile (fun d => decide (d ∈ cs nameS)) = r := by
          have := tw_stop (p := fun d => decide (d ∈ cs nameS)) r 61 q (fun d m => decide_eq_true (hr d m)) (decide_eq_false eq_no_name)
          exact this
        rw [e2]
        refine ⟨decide_eq_true (by omega), ?_⟩
        show ((c :: (r ++ 61 :: q))[1 + r.length]? == some 61) = true
        rw [Nat.add_comm, List.getElem?_cons_succ, List.getElem?_append_right (Nat.le_refl _), Nat.sub_self]
        rfl
    · have e : nameLen (c :: r ++ 61 :: q) = 0 := if_neg hc
      rw [e]
      constructor
      · rintro ⟨z, _⟩
        cases z
      · intro z
        obtain ⟨c', r', e', hc', _⟩ := (name_iff _).mp z
        obtain ⟨rfl, rfl⟩ := List.cons.inj e'
        exact absurd hc' hc
theorem begins_no {l : List Nat} (h : ¬ (61 ∈ l)) : beginsB l = false := by
  unfold beginsB
  rw [Bool.and_eq_false_iff]
  right
  cases z : l[nameLen l]? with
  | none => rfl
  | some d =>
    have := List.mem_of_getElem? z
    refine beq_eq_false_iff_ne.mpr fun e => ?_
    obtain rfl := Option.some.inj e
    exact h this
/-- a text cut at its first = -/
theorem cut_eq (x : Str) (h : 61 ∈ cs x) : ∃ a b : Str, x = a ++ ("=" : Str) ++ b ∧ ¬ (61 ∈ cs a) := by
  have e1 : ∀ l : List Nat, 61 ∈ l → ∃ p q, l = p ++ 61 :: q ∧ ¬ (61 ∈ p) := by
    intro l
    induction l with
    | nil => intro m; cases m
    | cons c l ih =>
      intro m
      by_cases hc : c = 61
      · subst hc
        exact ⟨[], l, rfl, by simp⟩
      · rcases List.mem_cons.mp m with e | m
        · exact absurd e.symm hc
        · obtain ⟨p, q, e, n⟩ := ih m
          refine ⟨c :: p, q, by rw [e]; rfl, fun z => ?_⟩
          rcases List.mem_cons.mp z with e | z
          · exact hc e.symm
          · exact n z
  obtain ⟨p, q, e, n⟩ := e1 _ h
  refine ⟨⟨p.toArray⟩, ⟨q.toArray⟩, ?_, by simpa using n⟩
  obtain ⟨ar⟩ := x
  have e : ar.toList = p ++ 61 :: q := e
  have e3 : ar = (p ++ 61 :: q).toArray := by rw [← e]
  rw [e3]
  show (⟨_⟩ : Str) = ⟨(p.toArray ++ #[61]) ++ q.toArray⟩
  congr 1
  simp
end Qb
end PySem
namespace PySem
namespace Qb
open PySem.W PySem.Calls PyProof.Rows L2
theorem pick_of (ws : List Str) {r : Nat} (h : r < ws.length) : ∃ w ∈ ws, (ws.map V.str)[r]? = some (.str w) := by
  refine ⟨ws[r], List.getElem_mem h, ?_⟩
  rw [List.getElem?_map, List.getElem?_eq_getElem h]
  rfl
def spNm : Sp := fun vs H Q _ => ∃ (S R : Addr) (n : Nat), vs = [.ref S] ∧ n ≤ 800 ∧ St H S R n ∧ ∀ H' x, St H' S R (n + 7) → Same (U S R H) (U S R H') → isNameB (cs x) = true → x.length ≤ 5 → Q (.str x) H'
def spBr : Sp := fun vs H Q _ => ∃ (S R : Addr) (n : Nat), vs = [.ref S] ∧ n ≤ 800 ∧ St H S R n ∧ ∀ H' x, St H' S R (n + 8) → Same (U S R H) (U S R H') → isBareB (cs x) = true → x.length ≤ 6 → Q (.str x) H'
def spDr : Sp := fun vs H Q _ => ∃ (S R : Addr) (n : Nat), vs = [.ref S] ∧ n ≤ 700 ∧ St H S R n ∧ ∀ H' x, St H' S R (n + 9) → Same (U S R H) (U S R H') → isBareB (cs x) = true → x.length ≤ 16 → Q (.str x) H'
abbrev wNm : List Str := ["if", "in", "do", "x", "SEP"]
abbrev wBr : List Str := ["if", "then", "esac", "in", "do", "!", "x", "x=", "_1=a", "1=", "2", "0", "-", "*"]
abbrev wKy : List Str := ["if", "then", "elif", "else", "fi", "while", "until", "do", "done", "for", "in", "case", "esac", "!"]
def lkB (x : Str) : Bool := inV (.str x) (wKy.map V.str)
theorem U_new {S R D : Addr} {H : Hp} {o : HO} (h : H D = none) : Same (U S R H) (U S R (L2.upd H D o)) := U_upd2 (Same.refl _) h
section
variable {P : Program} {w : World} {K : Frag} {mg : Str → Option Value} {base : Heap}
theorem ok_nm {f fD fS : Addr} {fd fdD fdS : FuncData} (F : Fun K "_law_name" "_law_name" sNm f fd) (B : Blt mg)
    (FD : Fun K "_law_draw" "_law_draw" sDraw fD fdD) (gD : mg "_law_draw" = some (.ref fD)) (bD : Binds K fdD ["_law_state_here", "_law_many"] [])
    (FS : Fun K "_law_signs" "_law_signs" sSig fS fdS) (gS : mg "_law_signs" = some (.ref fS)) (bS : Binds K fdS ["_law_state_here", "_law_some", "_law_least", "_law_most"] []) :
    FnOk P w K mg base CX0 3 f fd ["_law_state_here"] spNm := by
  have GD : FnOk P w K mg base CX0 1 fD fdD ["_law_state_here", "_law_many"] spDraw := ok_draw FD B
  have GS : FnOk P w K mg base CX0 2 fS fdS ["_law_state_here", "_law_some", "_law_least", "_law_most"] spSig := ok_sig FS B FD gD bD
  refine F.ok scNm (fun vs H Q E h => ?_) (fun cdv A outer s H vs Q E hr h => ?_)
  · obtain ⟨S, R, n, rfl, _⟩ := h
    rfl
  · refine ⟨_, pss_cons (ps_set (i := 1) scNm.nd rfl (.inl rfl) pe_str)
      (pss_cons (ps_set (i := 2) scNm.nd rfl (.inl rfl) (pe_lst (pa_cons pe_str (pa_cons pe_str (pa_cons pe_str (pa_cons pe_str (pa_cons pe_str pa_nil)))))))
      (pss_cons (ps_set (i := 3) scNm.nd rfl (.inl rfl) (pe_call GD (hr.mono (by decide)) rfl gD FD.kp bD .nil pass0 (pa_cons (pv 0) (pa_cons pe_int pa_nil))))
      (pss_cons (ps_if (pt_cmpR op_lt (pv 3) pe_int (nomark _)) (pss_one (ps_ret (pe_ix ix_list (pv 2) (pv 3) (fun _ _ => rfl)))) pss_nil)
      (pss_one (ps_ret (pe_op op_add_str (pe_ix ix_str (pv 1) (pe_call GD (hr.mono (by decide)) rfl gD FD.kp bD .nil pass0 (pa_cons (pv 0) (pa_cons pe_int pa_nil))) (fun _ _ => rfl))
        (pe_call GS hr rfl gS FS.kp bS .nil pass0 (pa_cons (pv 0) (pa_cons (pe_op op_add_str (pv 1) pe_str) (pa_cons pe_int (pa_cons pe_int pa_nil))))))))))), ?_⟩
    obtain ⟨S, R, n, rfl, hn, T, k⟩ := h
    refine ⟨(by decide : 5 ≤ sizeLine), fun L nL => ?_⟩
    have hU := U_new (S := S) (R := R) (o := .lst (wNm.map V.str)) nL
    obtain ⟨rs0, j0, T0, l0⟩ := T.upd (o := .lst (wNm.map V.str)) (T.ne nL)
    refine ⟨_, rfl, S, R, rs0, j0, _, rfl, by decide, by decide, by omega, T0, fun H1 r0 rs1 z0 hr1 z2 z3 => ?_⟩
    obtain ⟨r, rfl, T1, s1⟩ := drew z0 z2 l0 z3
    have hL : H1 L = some (.lst (wNm.map V.str)) := by
      rw [z3 L (T.ne nL).1 (T.ne nL).2]
      exact upd_same
    refine ⟨_, rfl, _, _, rfl, rfl, _, rfl, if_by (fun e => ?_) (fun e => ?_)⟩
    · have hlt : r < 5 := by
        have := of_decide_eq_true e
        omega
      obtain ⟨x, mx, hx⟩ := pick_of wNm (r := r) hlt
      have ok : ∀ x ∈ wNm, isNameB (cs x) = true ∧ x.length ≤ 5 := by decide +kernel
      exact ⟨_, rfl, _, rfl, L, _, _, _, rfl, rfl, SqL.of hL, atI_nat hx, k H1 x (T1.le (by omega)) (hU.trans s1) (ok x mx).1 (ok x mx).2⟩
    · obtain ⟨rs2, j2, T2, l2⟩ := T1
      refine ⟨_, rfl, _, rfl, S, R, rs2, j2, _, rfl, by decide, by decide, by omega, T2, fun H3 r3 rs3 z4 hr3 z6 z7 => ?_⟩
      obtain ⟨q, rfl, T3, s3⟩ := drew z4 z6 l2 z7
      have hq : q < (cs startS).length := Nat.lt_of_lt_of_le (by omega : q < 53) (by decide +kernel)
      obtain ⟨c, hc⟩ : ∃ c, (cs startS)[q]? = some c := ⟨_, List.getElem?_eq_getElem hq⟩
      have lS : startS.length ≤ sizeLine := by decide +kernel
      refine ⟨startS, _, c, rfl, rfl, lS, atI_nat hc, _, rfl, _, rfl, _, _, rfl, rfl, by decide +kernel, ?_⟩
      refine ⟨S, R, n + 2, startS ++ ("0123456789" : Str), 0, 4, rfl, by decide, by decide, by decide +kernel, by decide +kernel, by omega, T3, fun H4 y T4 s4 hy _ ly => ?_⟩
      have e1 : cs (startS ++ ("0123456789" : Str)) = cs nameS := by decide +kernel
      have ex : cs ((⟨#[c]⟩ : Str) ++ y) = c :: cs y := by
        rw [cs_app]
        rfl
      have lx : ((⟨#[c]⟩ : Str) ++ y).length = 1 + y.length := by
        rw [len_cs, ex, List.length_cons, len_cs y]
        omega
      refine ⟨_, _, rfl, rfl, ?_, k H4 _ (T4.le (by omega)) ((hU.trans s1).trans (s3.trans s4)) ?_ (by omega)⟩
      · show 1 + y.length ≤ sizeLine
        rw [sizeLine_eq]
        omega
      · rw [ex]
        exact (name_iff _).mpr ⟨c, cs y, rfl, List.mem_of_getElem? hc, fun d m => by rw [← e1]; exact hy d m⟩
theorem ok_br {f fD fS : Addr} {fd fdD fdS : FuncData} (F : Fun K "_law_bare" "_law_bare" sBr f fd) (B : Blt mg)
    (FD : Fun K "_law_draw" "_law_draw" sDraw fD fdD) (gD : mg "_law_draw" = some (.ref fD)) (bD : Binds K fdD ["_law_state_here", "_law_many"] [])
    (FS : Fun K "_law_signs" "_law_signs" sSig fS fdS) (gS : mg "_law_signs" = some (.ref fS)) (bS : Binds K fdS ["_law_state_here", "_law_some", "_law_least", "_law_most"] []) :
    FnOk P w K mg base CX0 3 f fd ["_law_state_here"] spBr := by
  have GD : FnOk P w K mg base CX0 1 fD fdD ["_law_state_here", "_law_many"] spDraw := ok_draw FD B
  have GS : FnOk P w K mg base CX0 2 fS fdS ["_law_state_here", "_law_some", "_law_least", "_law_most"] spSig := ok_sig FS B FD gD bD
  refine F.ok scBr (fun vs H Q E h => ?_) (fun cdv A outer s H vs Q E hr h => ?_)
  · obtain ⟨S, R, n, rfl, _⟩ := h
    rfl
  · refine ⟨_, pss_cons (ps_set (i := 1) scBr.nd rfl (.inl rfl) (pe_lst (pa_cons pe_str (pa_cons pe_str (pa_cons pe_str (pa_cons pe_str (pa_cons pe_str (pa_cons pe_str (pa_cons pe_str (pa_cons pe_str (pa_cons pe_str (pa_cons pe_str (pa_cons pe_str (pa_cons pe_str (pa_cons pe_str (pa_cons pe_str pa_nil))))))))))))))))
      (pss_cons (ps_set (i := 2) scBr.nd rfl (.inl rfl) (pe_call GD (hr.mono (by decide)) rfl gD FD.kp bD .nil pass0 (pa_cons (pv 0) (pa_cons pe_int pa_nil))))
      (pss_cons (ps_if (pt_cmpR op_lt (pv 2) pe_int (nomark _)) (pss_one (ps_ret (pe_ix ix_list (pv 1) (pv 2) (fun _ _ => rfl)))) pss_nil)
      (pss_cons (ps_set (i := 3) scBr.nd rfl (.inl rfl) pe_str)
      (pss_one (ps_ret (pe_call GS hr rfl gS FS.kp bS .nil pass0 (pa_cons (pv 0) (pa_cons (pv 3) (pa_cons pe_int (pa_cons pe_int pa_nil)))))))))), ?_⟩
    obtain ⟨S, R, n, rfl, hn, T, k⟩ := h
    refine ⟨(by decide : 14 ≤ sizeLine), fun L nL => ?_⟩
    have hU := U_new (S := S) (R := R) (o := .lst (wBr.map V.str)) nL
    obtain ⟨rs0, j0, T0, l0⟩ := T.upd (o := .lst (wBr.map V.str)) (T.ne nL)
    refine ⟨_, rfl, S, R, rs0, j0, _, rfl, by decide, by decide, by omega, T0, fun H1 r0 rs1 z0 hr1 z2 z3 => ?_⟩
    obtain ⟨r, rfl, T1, s1⟩ := drew z0 z2 l0 z3
    have hL : H1 L = some (.lst (wBr.map V.str)) := by
      rw [z3 L (T.ne nL).1 (T.ne nL).2]
      exact upd_same
    refine ⟨_, rfl, _, _, rfl, rfl, _, rfl, if_by (fun e => ?_) (fun e => ?_)⟩
    · have hlt : r < 14 := by
        have := of_decide_eq_true e
        omega
      obtain ⟨x, mx, hx⟩ := pick_of wBr (r := r) hlt
      have ok : ∀ x ∈ wBr, isBareB (cs x) = true ∧ x.length ≤ 6 := by decide +kernel
      exact ⟨_, rfl, _, rfl, L, _, _, _, rfl, rfl, SqL.of hL, atI_nat hx, k H1 x (T1.le (by omega)) (hU.trans s1) (ok x mx).1 (ok x mx).2⟩
    · refine ⟨_, rfl, _, rfl, S, R, n + 1, "abcdefghijklmnopqrstuvwxyzABCDEFGHIJKLMNOPQRSTUVWXYZ0123456789./_-,:+@=*?[]!~", 1, 6, rfl, by decide, by decide, by decide +kernel, by decide +kernel, by omega, T1, fun H4 y T4 s4 hy l1 ly => ?_⟩
      have e1 : ∀ c ∈ cs ("abcdefghijklmnopqrstuvwxyzABCDEFGHIJKLMNOPQRSTUVWXYZ0123456789./_-,:+@=*?[]!~" : Str), c ∈ cs bareS := by decide +kernel
      refine k H4 y (T4.le (by omega)) ((hU.trans s1).trans s4) (bare_of (fun z => ?_) fun c m => e1 c (hy c m)) ly
      rw [len_cs, z] at l1
      cases l1
theorem ok_ln {f : Addr} {fd : FuncData} (F : Fun K "_law_is_name" "_law_is_name" sLN f fd) (W : Wrt mg) : FnOk P w K mg base CX0 1 f fd ["_law_told"] (spTxt fun x => .bl (isNameB (cs x))) := by
  refine F.ok scLN (fun vs H Q E h => ?_) (fun cdv A outer s H vs Q E hr h => ?_)
  · obtain ⟨x, rfl, _⟩ := h
    rfl
  · refine ⟨_, pss_cons (ps_set (i := 1) scLN.nd rfl (.inr rfl) pe_str) (pss_one (ps_ret (pe_and (pe_cmpR op_ne (pv 0) pe_str (nomark _)) (pe_and (pe_cmpR op_in_sign (pe_ix ix_str (pv 0) pe_int (fun _ _ => rfl)) (pv 1) (by rfl))
        (pe_one (pe_callB (cr_all rfl) (by rfl) W.all (by decide +kernel) (pa_cons
        (pe_lc (own := [("_law_sign", 2)]) (g := gName 2) (tt := tYes) rfl scLN.nd (pi_str (pv 0)) (blkOk_by (N := ["_law_told", "_law_some", "_law_sign"]) (sc := defScope sLN) (by decide +kernel))
          (fun _ _ _ _ _ => pg_name (i := 2) scLN.nd rfl (Or.inl rfl)) (fun _ _ _ _ _ => pts_nil) (fun _ _ _ _ _ => pe_cmpR op_in_sign (pv 2) (pe_op op_add_str (pv 1) pe_str) (by rfl))) pa_nil))))))), ?_⟩
    obtain ⟨x, rfl, hx, k⟩ := h
    have hz := big_line hx
    refine ⟨_, rfl, rfl, _, rfl, ?_⟩
    have done : ∀ b H', isNameB (cs x) = b → Same H H' → Q (.bl b) H' := fun b H' e s => by
      have z : Q (.bl (isNameB (cs x))) H' := k H' s
      rw [e] at z
      exact z
    by_cases h0 : x = ("" : Str)
    · subst h0
      exact if_no (by simp) (done false H (by decide +kernel) (Same.refl H))
    · obtain ⟨c, r, hl⟩ : ∃ c r, cs x = c :: r := by
        cases e : cs x with
        | nil => exact absurd (cs_nil e) h0
        | cons c r => exact ⟨c, r, rfl⟩
      have ac : atI (cs x) 0 = some c := atI_nat (j := 0) (by rw [hl]; rfl)
      refine if_yes (by simpa using h0) ⟨_, rfl, x, 0, c, rfl, rfl, hz, ac, _, rfl, c, startS, rfl, rfl, _, rfl, ?_⟩
      have e1 : cs (startS ++ ("0123456789" : Str)) = cs nameS := by decide +kernel
      refine if_by (fun e => ?_) (fun e => ?_)
      · have hc := of_decide_eq_true e
        refine ⟨_, rfl, x, rfl, fun D hD => lc_it walk_str (fun i H' => H' = L2.upd H D (.lst (((cs x).take i).map fun d => V.bl (decide (d ∈ cs (startS ++ ("0123456789" : Str))))))) (by simp) (fun _ _ _ _ => trivial) (fun i v H' H2 hi e y => ?_) (fun H' e => ?_)⟩
        · obtain ⟨rfl, d, hd, rfl⟩ := y
          subst e
          have hd' : (cs x)[i]? = some d := by simpa using hd
          refine ⟨rfl, _, rfl, _, rfl, _, _, rfl, rfl, by decide +kernel, d, startS ++ ("0123456789" : Str), rfl, rfl, _, upd_same, ?_, ?_⟩
          · rw [List.length_map, List.length_take]
            have := len_cs x
            rw [sizeLine_eq] at hz ⊢
            unfold big at hx
            omega
          · rw [upd_upd, take_snoc hd', List.map_append]
            rfl
        · subst e
          have e2 : (cs x).take x.cps.size = cs x := List.take_of_length_le (by simp)
          rw [e2]
          refine ⟨D, (cs x).map fun d => decide (d ∈ cs (startS ++ ("0123456789" : Str))), rfl, SqL.of (by rw [upd_same, List.map_map]; rfl), ?_⟩
          refine done _ _ ?_ (same_upd hD)
          rw [e1, List.all_map]
          cases z : (cs x).all (id ∘ fun d => decide (d ∈ cs nameS)) with
          | true =>
            rw [List.all_eq_true] at z
            exact (name_iff _).mpr ⟨c, r, hl, hc, fun d m => of_decide_eq_true (z d (by rw [hl]; exact .tail _ m))⟩
          | false =>
            cases q : isNameB (cs x) with
            | false => rfl
            | true =>
              have : (cs x).all (id ∘ fun d => decide (d ∈ cs nameS)) = true := by
                rw [List.all_eq_true]
                exact fun d m => decide_eq_true (name_all q d m)
              rw [this] at z
              cases z
      · refine done false H ?_ (Same.refl H)
        cases q : isNameB (cs x) with
        | false => rfl
        | true =>
          obtain ⟨c', r', e', hc', _⟩ := (name_iff _).mp q
          rw [hl] at e'
          obtain ⟨rfl, rfl⟩ := List.cons.inj e'
          exact absurd hc' (of_decide_eq_false e)
theorem ok_lk {f : Addr} {fd : FuncData} (F : Fun K "_law_key" "_law_key" sLK f fd) : FnOk P w K mg base CX0 1 f fd ["_law_told"] (spTxt fun x => .bl (lkB x)) := by
  refine F.ok scLK (fun vs H Q E h => ?_) (fun cdv A outer s H vs Q E hr h => ?_)
  · obtain ⟨x, rfl, _⟩ := h
    rfl
  · refine ⟨_, pss_cons (ps_set (i := 1) scLK.nd rfl (.inl rfl) (pe_lst (pa_cons pe_str (pa_cons pe_str (pa_cons pe_str (pa_cons pe_str (pa_cons pe_str (pa_cons pe_str (pa_cons pe_str (pa_cons pe_str (pa_cons pe_str (pa_cons pe_str (pa_cons pe_str (pa_cons pe_str (pa_cons pe_str (pa_cons pe_str pa_nil))))))))))))))))
      (pss_one (ps_ret (pe_cmpR op_in_seq (pv 0) (pv 1) (by rfl)))), ?_⟩
    obtain ⟨x, rfl, hx, k⟩ := h
    refine ⟨(by decide : 14 ≤ sizeLine), fun L nL => ⟨_, rfl, _, rfl, L, wKy.map V.str, rfl, .inl (SqL.of upd_same), rfl, by decide +kernel, ?_⟩⟩
    exact k _ (same_upd nL)
end
end Qb
end PySem
namespace PySem
namespace Qb
open PySem.W PySem.Calls PyProof.Rows L2
theorem new_obj {S R p : Addr} {H : Hp} {n : Nat} {o : HO} (T : St H S R n) (np : H p = none) : St (L2.upd H p o) S R n ∧ Same (U S R H) (U S R (L2.upd H p o)) ∧ U S R (L2.upd H p o) p = some o :=
  ⟨T.upd (T.ne np), U_new np, U_set upd_same (T.ne np).1 (T.ne np).2⟩
section
variable {P : Program} {w : World} {K : Frag} {mg : Str → Option Value} {base : Heap}
theorem ok_dr {f fD fN fB : Addr} {fd fdD fdN fdB : FuncData} (F : Fun K "_law_drawn" "_law_drawn" sDr f fd) (B : Blt mg)
    (FD : Fun K "_law_draw" "_law_draw" sDraw fD fdD) (gD : mg "_law_draw" = some (.ref fD)) (bD : Binds K fdD ["_law_state_here", "_law_many"] [])
    (FN : Fun K "_law_name" "_law_name" sNm fN fdN) (gN : mg "_law_name" = some (.ref fN)) (bN : Binds K fdN ["_law_state_here"] []) (GN : FnOk P w K mg base CX0 3 fN fdN ["_law_state_here"] spNm)
    (FB : Fun K "_law_bare" "_law_bare" sBr fB fdB) (gB : mg "_law_bare" = some (.ref fB)) (bB : Binds K fdB ["_law_state_here"] []) (GB : FnOk P w K mg base CX0 3 fB fdB ["_law_state_here"] spBr) :
    FnOk P w K mg base CX0 4 f fd ["_law_state_here"] spDr := by
  have GD : FnOk P w K mg base CX0 1 fD fdD ["_law_state_here", "_law_many"] spDraw := ok_draw FD B
  refine F.ok scDr (fun vs H Q E h => ?_) (fun cdv A outer s H vs Q E hr h => ?_)
  · obtain ⟨S, R, n, rfl, _⟩ := h
    rfl
  · refine ⟨_, pss_cons (ps_set (i := 1) scDr.nd rfl (.inl rfl) (pe_lst (pa_cons pe_str (pa_cons pe_str (pa_cons pe_str (pa_cons pe_str (pa_cons pe_str (pa_cons pe_str (pa_cons pe_str (pa_cons pe_str (pa_cons pe_str (pa_cons pe_str (pa_cons pe_str (pa_cons pe_str (pa_cons pe_str (pa_cons pe_str pa_nil))))))))))))))))
      (pss_cons (ps_set (i := 2) scDr.nd rfl (.inl rfl) (pe_call GD (hr.mono (by decide)) rfl gD FD.kp bD .nil pass0 (pa_cons (pv 0) (pa_cons pe_int pa_nil))))
      (pss_cons (ps_if (pt_cmpR op_eq (pv 2) pe_int (nomark _)) (pss_one (ps_ret (pe_ix ix_list (pv 1) (pe_call GD (hr.mono (by decide)) rfl gD FD.kp bD .nil pass0 (pa_cons (pv 0) (pa_cons pe_int pa_nil))) (fun _ _ => rfl)))) pss_nil)
      (pss_cons (ps_if (pt_cmpR op_eq (pv 2) pe_int (nomark _)) (pss_one (ps_ret (pe_op op_add_str (pe_op op_add_str (pe_call GN hr rfl gN FN.kp bN .nil pass0 (pa_cons (pv 0) pa_nil)) pe_str)
          (pe_ix ix_list (pe_lst (pa_cons pe_str (pa_cons pe_str (pa_cons pe_str pa_nil)))) (pe_call GD (hr.mono (by decide)) rfl gD FD.kp bD .nil pass0 (pa_cons (pv 0) (pa_cons pe_int pa_nil))) (fun _ _ => rfl))))) pss_nil)
      (pss_cons (ps_if (pt_cmpR op_eq (pv 2) pe_int (nomark _)) (pss_one (ps_ret (pe_op op_add_str (pe_ix ix_list (pv 1) (pe_call GD (hr.mono (by decide)) rfl gD FD.kp bD .nil pass0 (pa_cons (pv 0) (pa_cons pe_int pa_nil))) (fun _ _ => rfl))
          (pe_ix ix_list (pe_lst (pa_cons pe_str (pa_cons pe_str (pa_cons pe_str pa_nil)))) (pe_call GD (hr.mono (by decide)) rfl gD FD.kp bD .nil pass0 (pa_cons (pv 0) (pa_cons pe_int pa_nil))) (fun _ _ => rfl))))) pss_nil)
      (pss_one (ps_ret (pe_call GB hr rfl gB FB.kp bB .nil pass0 (pa_cons (pv 0) pa_nil)))))))), ?_⟩
    obtain ⟨S, R, n, rfl, hn, T, k⟩ := h
    refine ⟨(by decide : 14 ≤ sizeLine), fun L nL => ?_⟩
    obtain ⟨Ta, sa, ga⟩ := new_obj (o := .lst (wKy.map V.str)) T nL
    have ga : U S R (L2.upd H L (.lst (wKy.map V.str))) L = some (.lst (wKy.map V.str)) := ga
    obtain ⟨rs0, j0, T0, l0⟩ := Ta
    refine ⟨_, rfl, S, R, rs0, j0, _, rfl, by decide, by decide, by omega, T0, fun H1 r0 rs1 z0 hr1 z2 z3 => ?_⟩
    obtain ⟨r, rfl, T1, s1⟩ := drew z0 z2 l0 z3
    have gL := s1 _ _ ga
    have okK : ∀ x ∈ wKy, (∀ c ∈ cs x, c ∈ cs bareS) ∧ cs x ≠ [] ∧ x.length ≤ 5 := by decide +kernel
    have okA : ∀ x ∈ (["", "a", "="] : List Str), (∀ c ∈ cs x, c ∈ cs bareS) ∧ x.length ≤ 1 := by decide +kernel
    have okB : ∀ x ∈ (["a", "=", "-="] : List Str), (∀ c ∈ cs x, c ∈ cs bareS) ∧ x.length ≤ 2 := by decide +kernel
    have okE : ∀ c ∈ cs ("=" : Str), c ∈ cs bareS := by decide +kernel
    refine ⟨_, rfl, rfl, _, rfl, if_by (fun _ => ?_) (fun _ => ?_)⟩
    · obtain ⟨rs2, j2, T2, l2⟩ := T1
      refine ⟨_, rfl, _, rfl, S, R, rs2, j2, _, rfl, by decide, by decide, by omega, T2, fun H3 r3 rs3 z4 hr3 z6 z7 => ?_⟩
      obtain ⟨q, rfl, T3, s3⟩ := drew z4 z6 l2 z7
      obtain ⟨x, mx, hx⟩ := pick_of wKy (r := q) (show q < 14 by omega)
      obtain ⟨o1, o2, o3⟩ := okK x mx
      exact ⟨L, _, _, _, rfl, rfl, SqL.of (U_back _ _ (s3 _ _ gL)), atI_nat hx, k H3 x (T3.le (by omega)) ((sa.trans s1).trans s3) (bare_of o2 o1) (by omega)⟩
    refine ⟨_, rfl, rfl, _, rfl, if_by (fun _ => ?_) (fun _ => ?_)⟩
    · refine ⟨_, rfl, S, R, n + 1, rfl, by omega, T1, fun H2 x T2 s2 nx lx => ⟨_, _, rfl, rfl, ?_, (by decide : 3 ≤ sizeLine), fun M nM => ?_⟩⟩
      · rw [sizeLine_eq, show ("=" : Str).length = 1 by decide +kernel]
        omega
      obtain ⟨Tb, sb, gb⟩ := new_obj (o := .lst ((["", "a", "="] : List Str).map V.str)) T2 nM
      obtain ⟨rs3, j3, T3, l3⟩ := Tb
      refine ⟨_, rfl, S, R, rs3, j3, _, rfl, by decide, by decide, by omega, T3, fun H4 r3 rs4 z4 hr3 z6 z7 => ?_⟩
      obtain ⟨q, rfl, T4, s4⟩ := drew z4 z6 l3 z7
      obtain ⟨y, my, hy⟩ := pick_of ["", "a", "="] (r := q) (show q < 3 by omega)
      obtain ⟨o1, o2⟩ := okA y my
      have ex : cs ((x ++ ("=" : Str)) ++ y) = (cs x ++ cs ("=" : Str)) ++ cs y := by rw [cs_app, cs_app]
      have lxx : ((x ++ ("=" : Str)) ++ y).length = x.length + 1 + y.length := by
        rw [len_cs, ex, List.length_append, List.length_append, len_cs x, len_cs y]
        rfl
      have lxe : (x ++ ("=" : Str)).length = x.length + 1 := by
        rw [len_cs, cs_app, List.length_append, len_cs x]
        rfl
      refine ⟨M, _, _, _, rfl, rfl, SqL.of (U_back _ _ (s4 _ _ gb)), atI_nat hy, _, _, rfl, rfl, ?_, k H4 _ (T4.le (by omega)) ((sa.trans s1).trans ((s2.trans sb).trans s4)) ?_ (by omega)⟩
      · rw [sizeLine_eq]
        omega
      · rw [ex]
        refine bare_of (by simp [show cs ("=" : Str) = [61] by decide +kernel]) fun c m => ?_
        rcases List.mem_append.mp m with m | m
        · rcases List.mem_append.mp m with m | m
          · exact name_bare c (name_all nx c m)
          · exact okE c m
        · exact o1 c m
    refine ⟨_, rfl, rfl, _, rfl, if_by (fun _ => ?_) (fun _ => ?_)⟩
    · obtain ⟨rs2, j2, T2, l2⟩ := T1
      refine ⟨_, rfl, _, rfl, S, R, rs2, j2, _, rfl, by decide, by decide, by omega, T2, fun H3 r3 rs3 z4 hr3 z6 z7 => ?_⟩
      obtain ⟨q, rfl, T3, s3⟩ := drew z4 z6 l2 z7
      obtain ⟨x, mx, hx⟩ := pick_of wKy (r := q) (show q < 14 by omega)
      obtain ⟨o1, o2, o3⟩ := okK x mx
      refine ⟨L, _, _, _, rfl, rfl, SqL.of (U_back _ _ (s3 _ _ gL)), atI_nat hx, (by decide : 3 ≤ sizeLine), fun M nM => ?_⟩
      obtain ⟨Tb, sb, gb⟩ := new_obj (o := .lst ((["a", "=", "-="] : List Str).map V.str)) T3 nM
      obtain ⟨rs4, j4, T4, l4⟩ := Tb
      refine ⟨_, rfl, S, R, rs4, j4, _, rfl, by decide, by decide, by omega, T4, fun H5 r5 rs5 y4 hr5 y6 y7 => ?_⟩
      obtain ⟨q2, rfl, T5, s5⟩ := drew y4 y6 l4 y7
      obtain ⟨y, my, hy⟩ := pick_of ["a", "=", "-="] (r := q2) (show q2 < 3 by omega)
      obtain ⟨p1, p2⟩ := okB y my
      have ex : cs (x ++ y) = cs x ++ cs y := by rw [cs_app]
      have lxx : (x ++ y).length = x.length + y.length := by
        rw [len_cs, ex, List.length_append, len_cs x, len_cs y]
      refine ⟨M, _, _, _, rfl, rfl, SqL.of (U_back _ _ (s5 _ _ gb)), atI_nat hy, _, _, rfl, rfl, ?_, k H5 _ (T5.le (by omega)) ((sa.trans s1).trans ((s3.trans sb).trans s5)) ?_ (by omega)⟩
      · rw [sizeLine_eq]
        omega
      · rw [ex]
        refine bare_of (by simp [o2]) fun c m => ?_
        rcases List.mem_append.mp m with m | m
        · exact o1 c m
        · exact p1 c m
    exact ⟨_, rfl, S, R, n + 1, rfl, by omega, T1, fun H2 x T2 s2 nx lx => k H2 x (T2.le (by omega)) ((sa.trans s1).trans s2) nx (by omega)⟩
end
end Qb
end PySem
namespace PySem
namespace Qb
open PySem.W PySem.Calls PyProof.Rows L2
abbrev sLaw : Stmt := top 75
abbrev nLw : List Str := ["_law_script", "_law_state_here", "_law_k", "_law_j", "_law_sets", "_law_told", "_law_first", "_law_pick", "_law_second", "_law_bad", "_law_node", "_law_passed", "_law_found"]
theorem scLw : FnScope nLw ["_law_script"] (defScope sLaw) := ⟨rfl, rfl, rfl, by decide +kernel, rfl, by decide +kernel, by decide +kernel⟩
section
variable {X : Cx} {CX : CXT} {k : Nat} {f : Addr} {fd : FuncData} {ps ks : List Str} {sp : Sp} {x : Str} {p pos : Pos} {E : XK} {kws : List Keyword} {tk : TA} {g : List Value → List Value → List Value} {gV : List V → List V → List V}
def tCallKw (sp : Sp) (gV : List V → List V → List V) (E : XK) (tk : TA) : TE := fun σ H Q => tk σ H fun zs H2 => sp (gV [] zs) H2 Q E
theorem pe_callKw (F : FnOk X.prog X.w X.K X.mg X.base CX k f fd ps sp) (hr : Room k X.A) (hg : Gl X x) (hm : X.mg x = some (.ref f)) (hk : PySem.W.keepIn X.K (.ref f) = true) (hb : KBinds X.K fd ps ks g gV) (hx : Passes CX X E)
    (hkw : PK X kws tk) (hall : (backToKw pos (keywordEach kws X.env)).all (·.1.isSome) = true := by rfl) (hks : (backToKw pos (keywordEach kws X.env)).filterMap (·.1) = ks := by rfl)
    (hdb : (x == ("__debug__" : Str)) = false := by decide)
    (hpl : ((backTo pos (starEach [] X.env)).any (·.1) || (backToKw pos (keywordEach kws X.env)).any (·.1.isNone)) = false := by rfl) :
    PE X (.Call (.Name x p) [] kws pos) (tCallKw sp gV E tk) := by
  refine ⟨fun pins s σ H Q I h => ?_⟩
  refine wpAny_Call_Name_kw (ld_glob I hg hm ?_ hdb)
  refine PySem.W.callWith_KW0 (h₀ := X.base) I.ok.mod.kin hk hall (thn (hkw.run pos pins s σ H _ I h) fun ws s2 ⟨zs, H2, I2, rz, q2⟩ => ⟨I2.kIn, ?_⟩) hpl
  rw [hks]
  exact run_fnk F hr hb hx I2 .nil rz q2
end
structure LawG (P : Program) (w : World) (K : Frag) (mg : Str → Option Value) (base : Heap) (fS fD fN fR fK fL fI : Addr) (dS dD dN dR dK dL dI : FuncData) : Prop where
  gS : mg "_law_state" = some (.ref fS)
  kS : PySem.W.keepIn K (.ref fS) = true
  bS : Binds K dS ["_law_script"] []
  GS : FnOk P w K mg base CX0 1 fS dS ["_law_script"] (spState K)
  gD : mg "_law_draw" = some (.ref fD)
  kD : PySem.W.keepIn K (.ref fD) = true
  bD : Binds K dD ["_law_state_here", "_law_many"] []
  GD : FnOk P w K mg base CX0 1 fD dD ["_law_state_here", "_law_many"] spDraw
  gN : mg "_law_name" = some (.ref fN)
  kN : PySem.W.keepIn K (.ref fN) = true
  bN : Binds K dN ["_law_state_here"] []
  GN : FnOk P w K mg base CX0 3 fN dN ["_law_state_here"] spNm
  gR : mg "_law_drawn" = some (.ref fR)
  kR : PySem.W.keepIn K (.ref fR) = true
  bR : Binds K dR ["_law_state_here"] []
  GR : FnOk P w K mg base CX0 4 fR dR ["_law_state_here"] spDr
  gK : mg "_law_key" = some (.ref fK)
  kK : PySem.W.keepIn K (.ref fK) = true
  bK : Binds K dK ["_law_told"] []
  GK : FnOk P w K mg base CX0 1 fK dK ["_law_told"] (spTxt fun x => .bl (lkB x))
  gL : mg "_law_is_name" = some (.ref fL)
  kL : PySem.W.keepIn K (.ref fL) = true
  bL : Binds K dL ["_law_told"] []
  GL : FnOk P w K mg base CX0 1 fL dL ["_law_told"] (spTxt fun x => .bl (isNameB (cs x)))
  gI : mg "is_script" = some (.ref fI)
  kI : PySem.W.keepIn K (.ref fI) = true
  bI : KBinds K dI ["tree"] ["tree"] (fun us ws => us ++ ws) (fun vs zs => vs ++ zs)
  GI : FnOk P w K mg base CX0 12 fI dI ["tree"] (spTr K fun b u => u = .bl b)
  bool : mg "bool" = none
def LP (K : Frag) (H : Hp) (a : Addr) (ps : List Pc) : Prop := ∃ xs, H a = some (.lst xs) ∧ DpAll K H xs (ps.map Pc.d)
theorem LP.same {K : Frag} {H H' : Hp} {a : Addr} {ps : List Pc} (h : LP K H a ps) (s : Same H H') : LP K H' a ps := by
  obtain ⟨xs, e, d⟩ := h
  exact ⟨xs, s _ _ e, dpAll_same s d⟩
theorem LP.dp {K : Frag} {H : Hp} {a : Addr} {ps : List Pc} (h : LP K H a ps) : Dp K H (.ref a) (wd ps) := by
  obtain ⟨xs, e, d⟩ := h
  exact .lst (SqL.of e) d
def forBody : List Stmt := match (defBody sLaw).getD 1 (.Pass ⟨0, 0, 0, 0⟩) with
  | .For _ _ b _ _ => b
  | _ => []
def lawSp (K : Frag) : Sp := fun vs H Q _ => ∃ (a : Addr) (ns : List Int), vs = [.ref a] ∧ SqL K H a (ns.map V.int) ∧ ns.length ≤ 63 ∧ ∀ H', Q (.bl true) H'
end Qb
end PySem
namespace PySem
namespace Qb
open PySem.W PySem.Calls PyProof.Rows L2
def SlotsL (σ : L2.St) (a S : Addr) (i : Nat) (v : V) : Prop := True
def helper : Nd := ⟨[], [[.held ""]]⟩
theorem helper_ok : helper.ok = true := by decide +kernel
theorem helper_fit : helper.fit := by
  refine ⟨⟨by decide, fun n m => by cases m⟩, ⟨by decide, fun w m => ?_⟩, by simp [helper]⟩
  rcases List.mem_singleton.mp m with rfl
  refine ⟨by decide, fun p m => ?_⟩
  rcases List.mem_singleton.mp m with rfl
  exact ⟨by show ("" : Str).length ≤ big; decide +kernel, by decide +kernel⟩
theorem law_tail {P : Program} {w : World} {K : Frag} {mg : Str → Option Value} {base : Heap} {f fS fD fN fR fK fL fI : Addr} {dS dD dN dR dK dL dI : FuncData} (W : Wrt mg) (B : Blt mg) (Z : LawG P w K mg base fS fD fN fR fK fL fI dS dD dN dR dK dL dI)
    (cdv : Value) (A : Around) (outer : List Env) (s : Shared) (H0 : Hp) (E : XK) (hr : Room 12 (cxOf CX0 P w K mg base nLw "law" (defScope sLaw) f cdv A outer s H0 E).A) :
    ∃ t, PSs (cxOf CX0 P w K mg base nLw "law" (defScope sLaw) f cdv A outer s H0 E).nox (forBody.drop 10) t ∧
      ∀ (D : Ends) (H : Hp) (a S R : Addr) (n : Nat) (x2 x3 x7 x10 x11 x12 : Option V) (vs v5 : V) (lf l8 : Addr) (b : Bool) (ns : List Str) (ps qs : List Pc), St H S R n → n ≤ 900 →
        Dp K (U S R H) vs (setsD ns) → Sfit ns → (ns.all fun n => isNameB (cs n)) = true → LP K (U S R H) lf ps → Wfit ps → fullB ps = true → LP K (U S R H) l8 qs → Wfit qs → fullB qs = true → b = !fwB ps ns →
        (∀ σ' H', (∃ y2 y3 y4 y5 y6 y7 y8 y9 y10 y11 y12, σ' = [some (.ref a), some (.ref S), y2, y3, y4, y5, y6, y7, y8, y9, y10, y11, y12]) → St H' S R (n + 2) → D.nx σ' H') →
        t D [some (.ref a), some (.ref S), x2, x3, some vs, some v5, some (.ref lf), x7, some (.ref l8), some (.bl b), x10, x11, x12] H := by
  refine ⟨_, (pss_cons (ps_set (i := 10) scLw.nd rfl (.inl rfl) (pe_tup (pa_cons pe_str (pa_cons (pv 4) (pa_cons (pe_slice sl_list (pe_lst (pa_cons (pv 6) (pa_cons (pv 8) pa_nil))) po_none (po_some (pe_op op_add pe_int (pe_call Z.GD (hr.mono (by decide)) rfl Z.gD Z.kD Z.bD .nil pass0 (pa_cons (pv 1) (pa_cons pe_int pa_nil)))))) (pa_cons (pe_lst pa_nil) pa_nil))))))
      (pss_cons (ps_set (i := 11) scLw.nd rfl (.inl rfl) (pe_ix ix_list (pe_lst (pa_cons (pe_lst (pa_cons (pv 10) pa_nil)) (pa_cons (pe_lst (pa_cons (pe_tup (pa_cons pe_str (pa_cons (pe_lst (pa_cons (pv 10) pa_nil)) (pa_cons (pe_lst pa_nil) pa_nil)))) pa_nil))
          (pa_cons (pe_lst (pa_cons (pe_tup (pa_cons pe_str (pa_cons (pe_lst (pa_cons (pe_tup (pa_cons pe_str (pa_cons (pe_lst pa_nil) (pa_cons (pe_lst (pa_cons (pe_lst (pa_cons (pe_tup (pa_cons pe_str (pa_cons pe_str pa_nil))) pa_nil)) pa_nil)) (pa_cons (pe_lst pa_nil) pa_nil))))) (pa_cons (pv 10) pa_nil))) pa_nil))) pa_nil)) pa_nil))))
          (pe_call Z.GD (hr.mono (by decide)) rfl Z.gD Z.kD Z.bD .nil pass0 (pa_cons (pv 1) (pa_cons pe_int pa_nil))) (fun _ _ => rfl)))
      (pss_cons (ps_set (i := 12) scLw.nd rfl (.inl rfl) (pe_callKw Z.GI hr rfl Z.gI Z.kI Z.bI pass0 (pk_cons (pv 11) pk_nil)))
      (pss_one (ps_if (PW.pt (pw_or (pt_not (pt_val (pe_callB call_isi (by rfl) B.isi (by decide +kernel) (pa_cons (pv 12) (pa_cons (pe_bltn (v := .ty "bool") (by rfl) Z.bool (by decide +kernel) rfl) pa_nil))))) (pw_or1 (pt_cmpR op_eq (pv 12) (pv 9) (nomark _))))) (pss_one ps_never) pss_nil))))), ?_⟩
  intro D H a S R n x2 x3 x7 x10 x11 x12 vs v5 lf l8 b ns ps qs T hn hs fs okn hp fp okp hq fq okq hb k
  refine ⟨_, rfl, _, rfl, _, rfl, (by decide : 2 ≤ sizeLine), fun lw m1 => ?_⟩
  obtain ⟨T, s1, g1⟩ := new_obj (o := .lst [.ref lf, .ref l8]) T m1
  obtain ⟨rs0, j0, T0, l0⟩ := T
  refine ⟨_, rfl, S, R, rs0, j0, _, rfl, by decide, by decide, by omega, T0, fun H1 r0 rs1 z0 hr1 z2 z3 => ?_⟩
  obtain ⟨r, rfl, T, s2⟩ := drew z0 z2 l0 z3
  have g1 := s2 _ _ g1
  have c := s1.trans s2
  refine ⟨_, _, rfl, rfl, _, rfl, lw, _, rfl, SqL.of (U_back _ _ g1), fun q m2 => ?_⟩
  obtain ⟨T, s3, g2⟩ := new_obj (o := .lst (cutV [V.ref lf, V.ref l8] none (some (1 + (r : Int))))) T m2
  have c := c.trans s3
  refine ⟨(by decide : 0 ≤ sizeLine), fun z m3 => ?_⟩
  obtain ⟨T, s4, g3⟩ := new_obj (o := .lst []) T m3
  have g2 := s4 _ _ g2
  have c := c.trans s4
  refine ⟨(by decide : 4 ≤ sizeLine), fun nd m4 => ?_⟩
  obtain ⟨T, s5, g4⟩ := new_obj (o := .tup [.str "do", vs, .ref q, .ref z]) T m4
  have g2 := s5 _ _ g2
  have g3 := s5 _ _ g3
  have c := c.trans s5
  -- the node
  obtain ⟨ws, hws, dw, few, ne, hd, allf⟩ : ∃ ws : List (List Pc), DpAll K (U S R H) (cutV [V.ref lf, V.ref l8] none (some (1 + (r : Int)))) (ws.map wd) ∧ WsFit ws ∧ ws.length ≤ 2 ∧ ws ≠ [] ∧ ws.headD [] = ps ∧ ws.all fullB = true := by
    have hr2 : r < 2 := by omega
    match r, hr2 with
    | 0, _ =>
      refine ⟨[ps], .cons hp.dp .nil, ⟨(by decide : 1 ≤ 10), fun w m => ?_⟩, (by decide : 1 ≤ 2), by simp, rfl, ?_⟩
      · rcases List.mem_singleton.mp m with rfl
        exact fp
      · show (fullB ps && true) = true
        rw [okp]
        rfl
    | 1, _ =>
      refine ⟨[ps, qs], .cons hp.dp (.cons hq.dp .nil), ⟨(by decide : 2 ≤ 10), fun w m => ?_⟩, (by decide : 2 ≤ 2), by simp, rfl, ?_⟩
      · rcases List.mem_cons.mp m with rfl | m
        · exact fp
        · rcases List.mem_singleton.mp m with rfl
          exact fq
      · show (fullB ps && (fullB qs && true)) = true
        rw [okp, okq]
        rfl
  have nfit : (Nd.mk ns ws).fit := ⟨fs, dw, ne⟩
  have nok : (Nd.mk ns ws).ok = fwB ps ns := by
    show doB ns ws = _
    unfold doB
    rw [okn, allf, hd]
    rfl
  have dn : Dp K (U S R (L2.upd (L2.upd (L2.upd H1 q (.lst (cutV [V.ref lf, V.ref l8] none (some (1 + (r : Int)))))) z (.lst [])) nd (.tup [.str "do", vs, .ref q, .ref z]))) (.ref nd) (Nd.mk ns ws).d :=
    .tup (SqT.of g4) (.cons (.str _) (.cons (dp_same c hs) (.cons (.lst (SqL.of g2) (dpAll_same c hws)) (.cons (.lst (SqL.of g3) .nil) .nil))))
  generalize L2.upd (L2.upd (L2.upd H1 q (.lst (cutV [V.ref lf, V.ref l8] none (some (1 + (r : Int)))))) z (.lst [])) nd (.tup [.str "do", vs, .ref q, .ref z]) = H2 at T dn ⊢
  generalize Nd.mk ns ws = N at dn nfit nok
  refine ⟨_, rfl, (by decide : 1 ≤ sizeLine), fun p1 m => ?_⟩
  obtain ⟨T, s, g⟩ := new_obj (o := .lst [.ref nd]) T m
  have dn := dp_same s dn
  have d1 : Dp K (U S R (L2.upd H2 p1 (.lst [.ref nd]))) (.ref p1) (.list [N.d]) := .lst (SqL.of g) (.cons dn .nil)
  generalize L2.upd H2 p1 (.lst [.ref nd]) = H3 at T dn d1 ⊢
  refine ⟨_, rfl, (by decide : 1 ≤ sizeLine), fun p2 m => ?_⟩
  obtain ⟨T, s, g⟩ := new_obj (o := .lst [.ref nd]) T m
  have dn := dp_same s dn
  have d1 := dp_same s d1
  have d2 : Dp K (U S R (L2.upd H3 p2 (.lst [.ref nd]))) (.ref p2) (.list [N.d]) := .lst (SqL.of g) (.cons dn .nil)
  generalize L2.upd H3 p2 (.lst [.ref nd]) = H4 at T dn d1 d2 ⊢
  refine ⟨(by decide : 0 ≤ sizeLine), fun p3 m => ?_⟩
  obtain ⟨T, s, g⟩ := new_obj (o := .lst []) T m
  have dn := dp_same s dn
  have d1 := dp_same s d1
  have d2 := dp_same s d2
  have d3 : Dp K (U S R (L2.upd H4 p3 (.lst []))) (.ref p3) (.list []) := .lst (SqL.of g) .nil
  generalize L2.upd H4 p3 (.lst []) = H5 at T dn d1 d2 d3 ⊢
  refine ⟨(by decide : 3 ≤ sizeLine), fun p4 m => ?_⟩
  obtain ⟨T, s, g⟩ := new_obj (o := .tup [.str "group", .ref p2, .ref p3]) T m
  have dn := dp_same s dn
  have d1 := dp_same s d1
  have d2 := dp_same s d2
  have d3 := dp_same s d3
  have d4 : Dp K (U S R (L2.upd H5 p4 (.tup [.str "group", .ref p2, .ref p3]))) (.ref p4) (Cm.grp N).d := .tup (SqT.of g) (.cons (.str _) (.cons d2 (.cons d3 .nil)))
  generalize L2.upd H5 p4 (.tup [.str "group", .ref p2, .ref p3]) = H6 at T dn d1 d2 d3 d4 ⊢
  refine ⟨(by decide : 1 ≤ sizeLine), fun p5 m => ?_⟩
  obtain ⟨T, s, g⟩ := new_obj (o := .lst [.ref p4]) T m
  have dn := dp_same s dn
  have d1 := dp_same s d1
  have d4 := dp_same s d4
  have d5 : Dp K (U S R (L2.upd H6 p5 (.lst [.ref p4]))) (.ref p5) (.list [(Cm.grp N).d]) := .lst (SqL.of g) (.cons d4 .nil)
  generalize L2.upd H6 p5 (.lst [.ref p4]) = H7 at T dn d1 d4 d5 ⊢
  refine ⟨(by decide : 0 ≤ sizeLine), fun p6 m => ?_⟩
  obtain ⟨T, s, g⟩ := new_obj (o := .lst []) T m
  have dn := dp_same s dn
  have d1 := dp_same s d1
  have d5 := dp_same s d5
  have d6 : Dp K (U S R (L2.upd H7 p6 (.lst []))) (.ref p6) (.list []) := .lst (SqL.of g) .nil
  generalize L2.upd H7 p6 (.lst []) = H8 at T dn d1 d5 d6 ⊢
  refine ⟨(by decide : 2 ≤ sizeLine), fun p7 m => ?_⟩
  obtain ⟨T, s, g⟩ := new_obj (o := .tup [.str "held", .str ""]) T m
  have dn := dp_same s dn
  have d1 := dp_same s d1
  have d5 := dp_same s d5
  have d6 := dp_same s d6
  have d7 : Dp K (U S R (L2.upd H8 p7 (.tup [.str "held", .str ""]))) (.ref p7) (Pc.d (.held "")) := .tup (SqT.of g) (.cons (.str _) (.cons (.str _) .nil))
  generalize L2.upd H8 p7 (.tup [.str "held", .str ""]) = H9 at T dn d1 d5 d6 d7 ⊢
  refine ⟨(by decide : 1 ≤ sizeLine), fun p8 m => ?_⟩
  obtain ⟨T, s, g⟩ := new_obj (o := .lst [.ref p7]) T m
  have dn := dp_same s dn
  have d1 := dp_same s d1
  have d5 := dp_same s d5
  have d6 := dp_same s d6
  have d7 := dp_same s d7
  have d8 : Dp K (U S R (L2.upd H9 p8 (.lst [.ref p7]))) (.ref p8) (wd [.held ""]) := .lst (SqL.of g) (.cons d7 .nil)
  generalize L2.upd H9 p8 (.lst [.ref p7]) = H10 at T dn d1 d5 d6 d7 d8 ⊢
  refine ⟨(by decide : 1 ≤ sizeLine), fun p9 m => ?_⟩
  obtain ⟨T, s, g⟩ := new_obj (o := .lst [.ref p8]) T m
  have dn := dp_same s dn
  have d1 := dp_same s d1
  have d5 := dp_same s d5
  have d6 := dp_same s d6
  have d8 := dp_same s d8
  have d9 : Dp K (U S R (L2.upd H10 p9 (.lst [.ref p8]))) (.ref p9) (wsD [[.held ""]]) := .lst (SqL.of g) (.cons d8 .nil)
  generalize L2.upd H10 p9 (.lst [.ref p8]) = H11 at T dn d1 d5 d6 d8 d9 ⊢
  refine ⟨(by decide : 0 ≤ sizeLine), fun p10 m => ?_⟩
  obtain ⟨T, s, g⟩ := new_obj (o := .lst []) T m
  have dn := dp_same s dn
  have d1 := dp_same s d1
  have d5 := dp_same s d5
  have d6 := dp_same s d6
  have d9 := dp_same s d9
  have d10 : Dp K (U S R (L2.upd H11 p10 (.lst []))) (.ref p10) (.list []) := .lst (SqL.of g) .nil
  generalize L2.upd H11 p10 (.lst []) = H12 at T dn d1 d5 d6 d9 d10 ⊢
  refine ⟨(by decide : 4 ≤ sizeLine), fun p11 m => ?_⟩
  obtain ⟨T, s, g⟩ := new_obj (o := .tup [.str "do", .ref p6, .ref p9, .ref p10]) T m
  have dn := dp_same s dn
  have d1 := dp_same s d1
  have d5 := dp_same s d5
  have d6 := dp_same s d6
  have d9 := dp_same s d9
  have d10 := dp_same s d10
  have d11 : Dp K (U S R (L2.upd H12 p11 (.tup [.str "do", .ref p6, .ref p9, .ref p10]))) (.ref p11) helper.d := .tup (SqT.of g) (.cons (.str _) (.cons d6 (.cons d9 (.cons d10 .nil))))
  generalize L2.upd H12 p11 (.tup [.str "do", .ref p6, .ref p9, .ref p10]) = H13 at T dn d1 d5 d6 d9 d10 d11 ⊢
  refine ⟨_, rfl, (by decide : 2 ≤ sizeLine), fun p12 m => ?_⟩
  obtain ⟨T, s, g⟩ := new_obj (o := .lst [.ref p11, .ref nd]) T m
  have dn := dp_same s dn
  have d1 := dp_same s d1
  have d5 := dp_same s d5
  have d11 := dp_same s d11
  have d12 : Dp K (U S R (L2.upd H13 p12 (.lst [.ref p11, .ref nd]))) (.ref p12) (.list [helper.d, N.d]) := .lst (SqL.of g) (.cons d11 (.cons dn .nil))
  generalize L2.upd H13 p12 (.lst [.ref p11, .ref nd]) = H14 at T dn d1 d5 d11 d12 ⊢
  refine ⟨(by decide : 2 ≤ sizeLine), fun p13 m => ?_⟩
  obtain ⟨T, s, g⟩ := new_obj (o := .tup [.str "pipe", .ref p12]) T m
  have dn := dp_same s dn
  have d1 := dp_same s d1
  have d5 := dp_same s d5
  have d12 := dp_same s d12
  have d13 : Dp K (U S R (L2.upd H14 p13 (.tup [.str "pipe", .ref p12]))) (.ref p13) (Cm.pip helper N).d := .tup (SqT.of g) (.cons (.str _) (.cons d12 .nil))
  generalize L2.upd H14 p13 (.tup [.str "pipe", .ref p12]) = H15 at T dn d1 d5 d12 d13 ⊢
  refine ⟨(by decide : 1 ≤ sizeLine), fun p14 m => ?_⟩
  obtain ⟨T, s, g⟩ := new_obj (o := .lst [.ref p13]) T m
  have dn := dp_same s dn
  have d1 := dp_same s d1
  have d5 := dp_same s d5
  have d13 := dp_same s d13
  have d14 : Dp K (U S R (L2.upd H15 p14 (.lst [.ref p13]))) (.ref p14) (.list [(Cm.pip helper N).d]) := .lst (SqL.of g) (.cons d13 .nil)
  generalize L2.upd H15 p14 (.lst [.ref p13]) = H16 at T dn d1 d5 d13 d14 ⊢
  refine ⟨(by decide : 3 ≤ sizeLine), fun p15 m => ?_⟩
  obtain ⟨T, s, g⟩ := new_obj (o := .lst [.ref p1, .ref p5, .ref p14]) T m
  have d1 := dp_same s d1
  have d5 := dp_same s d5
  have d14 := dp_same s d14
  obtain ⟨rs1, j1, T1, l1⟩ := T
  refine ⟨_, rfl, S, R, rs1, j1, _, rfl, by decide, by decide, by omega, T1, fun HA r1 rs2 y0 hr3 y2 y3 => ?_⟩
  obtain ⟨r2, rfl, T, s6⟩ := drew y0 y2 l1 y3
  have g := s6 _ _ g
  have d1 := dp_same s6 d1
  have d5 := dp_same s6 d5
  have d14 := dp_same s6 d14
  obtain ⟨v, cs, hv, dv, fc, lc, ac⟩ : ∃ (v : V) (cs : List Cm), ([V.ref p1, V.ref p5, V.ref p14])[r2]? = some v ∧ Dp K (U S R HA) v (.list (cs.map Cm.d)) ∧ (∀ c ∈ cs, c.fit) ∧ cs.length ≤ 10 ∧ cs.all Cm.all = fwB ps ns := by
    have hr4 : r2 < 3 := by omega
    match r2, hr4 with
    | 0, _ =>
      refine ⟨_, [.nd N], rfl, d1, fun c m => ?_, (by decide : 1 ≤ 10), ?_⟩
      · rcases List.mem_singleton.mp m with rfl
        exact nfit
      · show (N.ok && true) = _
        rw [nok, Bool.and_true]
    | 1, _ =>
      refine ⟨_, [.grp N], rfl, d5, fun c m => ?_, (by decide : 1 ≤ 10), ?_⟩
      · rcases List.mem_singleton.mp m with rfl
        exact nfit
      · show (N.ok && true) = _
        rw [nok, Bool.and_true]
    | 2, _ =>
      refine ⟨_, [.pip helper N], rfl, d14, fun c m => ?_, (by decide : 1 ≤ 10), ?_⟩
      · rcases List.mem_singleton.mp m with rfl
        exact ⟨helper_fit, nfit⟩
      · show ((helper.ok && N.ok) && true) = _
        rw [nok, helper_ok, Bool.true_and, Bool.and_true]
  refine ⟨p15, _, _, _, rfl, rfl, SqL.of (U_back _ _ g), atI_nat hv, ?_⟩
  refine ⟨_, rfl, v, cs, rfl, dp_same U_back dv, lc, fc, fun HB u sB eu => ?_⟩
  subst eu
  rw [ac]
  refine ⟨_, rfl, .bl (fwB ps ns), .ty "bool", _, _, true, rfl, .ty "bool", .base (.bl _), kit_ty (by decide +kernel), true, rfl, if_no rfl ?_⟩
  refine ⟨_, rfl, _, rfl, rfl, _, rfl, if_no ?_ (k _ HB ⟨_, _, _, _, _, _, _, _, _, _, _, rfl⟩ ((T.same sB).le (by omega)))⟩
  rw [hb]
  cases fwB ps ns <;> decide +kernel
end Qb
end PySem
namespace PySem
namespace Qb
open PySem.W PySem.Calls PyProof.Rows L2
theorem inV_str (x : Str) : ∀ l : List Str, inV (.str x) (l.map V.str) = true ↔ x ∈ l := by
  intro l
  unfold inV
  rw [List.any_eq_true]
  constructor
  · rintro ⟨v, m, e⟩
    obtain ⟨y, hy, rfl⟩ := List.mem_map.mp m
    have e : y = x := by simpa [eqV] using e
    rw [← e]
    exact hy
  · intro m
    exact ⟨.str x, List.mem_map.mpr ⟨x, m, rfl⟩, by simp [eqV]⟩
theorem key_same {x : Str} (h : isBareB (cs x) = true) : isKw x = lkB x := by
  have h1 : ∀ y ∈ kws, y ∈ wKy ∨ y = ("{" : Str) ∨ y = ("}" : Str) := by decide +kernel
  have h2 : ∀ y ∈ wKy, y ∈ kws := by decide +kernel
  have n1 : isBareB (cs ("{" : Str)) = false := by decide +kernel
  have n2 : isBareB (cs ("}" : Str)) = false := by decide +kernel
  cases a : lkB x with
  | true => exact (inV_str x kws).mpr (h2 x ((inV_str x wKy).mp a))
  | false =>
    cases b : isKw x with
    | false => rfl
    | true =>
      rcases h1 x ((inV_str x kws).mp b) with m | rfl | rfl
      · rw [show lkB x = true from (inV_str x wKy).mpr m] at a
        cases a
      · rw [n1] at h
        cases h
      · rw [n2] at h
        cases h
theorem bad_eq {x : Str} {p : Nat} {ns : List Str} {ps : List Pc} {b0 : Bool} (hx : isBareB (cs x) = true) (h1 : 1 < p) (hm : 1 < p → ∃ more, ps = .bare x :: more) (hb0 : b0 = (decide (1 < p) && (ns.isEmpty && (decide (ps.length = 1) && lkB x)))) :
    (b0 || beginsB (cs x)) = !fwB ps ns := by
  obtain ⟨more, rfl⟩ := hm h1
  have e : keyB (.bare x :: more) = (decide ((Pc.bare x :: more).length = 1) && lkB x) := by
    cases more with
    | nil => exact key_same hx
    | cons q r => rfl
  have ef : fwB (.bare x :: more) ns = (!(ns.isEmpty && keyB (.bare x :: more)) && !(true && beginsB (cs x))) := rfl
  rw [hb0, ef, e, decide_eq_true h1]
  cases ns.isEmpty <;> cases decide ((Pc.bare x :: more).length = 1) <;> cases lkB x <;> cases beginsB (cs x) <;> rfl
theorem part_eq {x : Str} (h : 61 ∈ cs x) : isNameB (cs (Txt.partition x "=").1) = beginsB (cs x) ∧ (Txt.partition x "=").1.length ≤ x.length := by
  obtain ⟨a, b, rfl, na⟩ := cut_eq x h
  have e : Txt.partition (a ++ ("=" : Str) ++ b) "=" = (a, ("=" : Str), b) := TL.partition_app (s := 61) (S := []) (by decide +kernel) na
  rw [e]
  have ex : cs (a ++ ("=" : Str) ++ b) = cs a ++ 61 :: cs b := by
    rw [cs_app, cs_app, show cs ("=" : Str) = [61] by decide +kernel]
    simp
  refine ⟨?_, ?_⟩
  · rw [ex, begins_at na]
  · show a.length ≤ _
    rw [len_cs a, len_cs, ex, List.length_append]
    omega
theorem law_m10 {P : Program} {w : World} {K : Frag} {mg : Str → Option Value} {base : Heap} {f fS fD fN fR fK fL fI : Addr} {dS dD dN dR dK dL dI : FuncData} (W : Wrt mg) (B : Blt mg) (Z : LawG P w K mg base fS fD fN fR fK fL fI dS dD dN dR dK dL dI)
    (cdv : Value) (A : Around) (outer : List Env) (s : Shared) (H0 : Hp) (E : XK) (hr : Room 12 (cxOf CX0 P w K mg base nLw "law" (defScope sLaw) f cdv A outer s H0 E).A) :
    ∃ t, PSs (cxOf CX0 P w K mg base nLw "law" (defScope sLaw) f cdv A outer s H0 E).nox (forBody.drop 9) t ∧
      ∀ (D : Ends) (H : Hp) (a S R : Addr) (n p : Nat) (x2 x3 x10 x11 x12 : Option V) (vs : V) (x : Str) (lf l8 : Addr) (b0 : Bool) (ns : List Str) (ps qs : List Pc), St H S R n → n ≤ 900 →
        Dp K (U S R H) vs (setsD ns) → Sfit ns → (ns.all fun n => isNameB (cs n)) = true → LP K (U S R H) lf ps → Wfit ps → fullB ps = true → LP K (U S R H) l8 qs → Wfit qs → fullB qs = true →
        isBareB (cs x) = true → x.length ≤ 16 → (p ≤ 1 → fwB ps ns = true) → (1 < p → ∃ more, ps = .bare x :: more) → b0 = (decide (1 < p) && (ns.isEmpty && (decide (ps.length = 1) && lkB x))) →
        (∀ σ' H', (∃ y2 y3 y4 y5 y6 y7 y8 y9 y10 y11 y12, σ' = [some (.ref a), some (.ref S), y2, y3, y4, y5, y6, y7, y8, y9, y10, y11, y12]) → St H' S R (n + 2) → D.nx σ' H') →
        t D [some (.ref a), some (.ref S), x2, x3, some vs, some (.str x), some (.ref lf), some (.int p), some (.ref l8), some (.bl b0), x10, x11, x12] H := by
  obtain ⟨t, ht, rd⟩ := law_tail W B Z cdv A outer s H0 E hr
  refine ⟨_, pss_cons (ps_if (PW.pt (pw_and (pt_cmpR op_gt (pv 7) pe_int (nomark _)) (pw_and (pt_cmpR op_in_sign pe_str (pv 5) (by rfl)) (pw_and1 (pt_val (pe_call Z.GL (hr.mono (by decide)) rfl Z.gL Z.kL Z.bL .nil pass0 (pa_cons (pe_ix ix_tup (pe_partition (pv 5) pe_str) pe_int (fun _ _ => rfl)) pa_nil)))))))
          (pss_one (ps_set (i := 9) scLw.nd rfl (.inl rfl) pe_bl)) pss_nil) ht, ?_⟩
  intro D H a S R n p x2 x3 x10 x11 x12 vs x lf l8 b0 ns ps qs T hn hs fs okn hp fp okp hq fq okq hx lx hle hgt hb0 k
  have leaf : ∀ (b : Bool) (H9 : Hp), Same H H9 → b = !fwB ps ns → t D [some (.ref a), some (.ref S), x2, x3, some vs, some (.str x), some (.ref lf), some (.int p), some (.ref l8), some (.bl b), x10, x11, x12] H9 := fun b H9 s9 e =>
    rd D H9 a S R n x2 x3 _ x10 x11 x12 vs _ lf l8 b ns ps qs (T.same s9) hn (dp_same (U_same s9) hs) fs okn (hp.same (U_same s9)) fp okp (hq.same (U_same s9)) fq okq e k
  refine ⟨_, rfl, _, _, rfl, rfl, _, rfl, if_by (fun e => ?_) (fun e => if_no rfl (leaf b0 H (Same.refl H) ?_))⟩
  · have h1 : 1 < p := by
      have := of_decide_eq_true e
      omega
    have eb := bad_eq hx h1 hgt hb0
    refine ⟨_, rfl, 61, x, congrArg V.str (by decide +kernel), rfl, _, rfl, if_by (fun e2 => ?_) (fun e2 => if_no rfl (leaf b0 H (Same.refl H) ?_))⟩
    · have m := of_decide_eq_true e2
      obtain ⟨e3, l3⟩ := part_eq m
      refine ⟨_, rfl, ⟨_, rfl⟩, x, "=", rfl, rfl, by decide +kernel, ?_, fun q nq => ?_⟩
      · rw [sizeLine_eq]
        omega
      refine ⟨q, _, 0, _, rfl, rfl, SqT.of upd_same, atI_nat (j := 0) rfl, (Txt.partition x "=").1, rfl, ?_, fun H9 s9 => ⟨_, rfl, if_by (fun e4 => ?_) (fun e4 => ?_)⟩⟩
      · unfold big
        omega
      · refine leaf true H9 ((same_upd nq).trans s9) ?_
        rw [← eb, ← e3, e4, Bool.or_true]
      · refine leaf b0 H9 ((same_upd nq).trans s9) ?_
        rw [← eb, ← e3, e4, Bool.or_false]
    · rw [← eb, begins_no (of_decide_eq_false e2), Bool.or_false]
  · have h1 : ¬ 1 < p := by
      have := of_decide_eq_false e
      omega
    rw [hb0, decide_eq_false h1, hle (by omega)]
    rfl
end Qb
end PySem
namespace PySem
namespace Qb
open PySem.W PySem.Calls PyProof.Rows L2
theorem bare_fit {x : Str} (h : isBareB (cs x) = true) (l : x.length ≤ 16) : (Pc.bare x).fit := by
  refine ⟨?_, bare_ok (bare_to h).2⟩
  show x.length ≤ big
  unfold big
  omega
theorem held_fit {x : Str} (h : ∀ c ∈ cs x, c ∈ cs bareS) (l : x.length ≤ 16) : (Pc.held x).fit := by
  refine ⟨?_, bare_ok h⟩
  show x.length ≤ big
  unfold big
  omega
theorem law_m7 {P : Program} {w : World} {K : Frag} {mg : Str → Option Value} {base : Heap} {f fS fD fN fR fK fL fI : Addr} {dS dD dN dR dK dL dI : FuncData} (W : Wrt mg) (B : Blt mg) (Z : LawG P w K mg base fS fD fN fR fK fL fI dS dD dN dR dK dL dI)
    (cdv : Value) (A : Around) (outer : List Env) (s : Shared) (H0 : Hp) (E : XK) (hr : Room 12 (cxOf CX0 P w K mg base nLw "law" (defScope sLaw) f cdv A outer s H0 E).A) :
    ∃ t, PSs (cxOf CX0 P w K mg base nLw "law" (defScope sLaw) f cdv A outer s H0 E).nox (forBody.drop 7) t ∧
      ∀ (D : Ends) (H : Hp) (a S R : Addr) (n p : Nat) (x2 x3 x8 x9 x10 x11 x12 : Option V) (vs : V) (x : Str) (lf : Addr) (ns : List Str) (ps : List Pc), St H S R n → n ≤ 600 →
        Dp K (U S R H) vs (setsD ns) → Sfit ns → (ns.all fun n => isNameB (cs n)) = true → LP K (U S R H) lf ps → Wfit ps → fullB ps = true →
        isBareB (cs x) = true → x.length ≤ 16 → (p ≤ 1 → fwB ps ns = true) → (1 < p → ∃ more, ps = .bare x :: more) →
        (∀ σ' H', (∃ y2 y3 y4 y5 y6 y7 y8 y9 y10 y11 y12, σ' = [some (.ref a), some (.ref S), y2, y3, y4, y5, y6, y7, y8, y9, y10, y11, y12]) → St H' S R (n + 11) → D.nx σ' H') →
        t D [some (.ref a), some (.ref S), x2, x3, some vs, some (.str x), some (.ref lf), some (.int p), x8, x9, x10, x11, x12] H := by
  obtain ⟨t, ht, rd⟩ := law_m10 W B Z cdv A outer s H0 E hr
  refine ⟨_, (pss_cons (ps_set (i := 8) scLw.nd rfl (.inl rfl) (pe_lst (pa_cons (pe_tup (pa_cons pe_str (pa_cons (pe_call Z.GR (hr.mono (by decide)) rfl Z.gR Z.kR Z.bR .nil pass0 (pa_cons (pv 1) pa_nil)) pa_nil))) pa_nil)))
      (pss_cons (ps_set (i := 9) scLw.nd rfl (.inl rfl) (pe_and (pe_cmpR op_gt (pv 7) pe_int (nomark _)) (pe_and (pe_cmpR (op_eqD hr.units) (pv 4) (pe_lst pa_nil) (nomark _)) (pe_and (pe_cmpR op_eq (pe_callB call_len_seq (by rfl) W.len PySem.boot_len (pa_cons (pv 6) pa_nil)) pe_int (nomark _))
          (pe_one (pe_call Z.GK (hr.mono (by decide)) rfl Z.gK Z.kK Z.bK .nil pass0 (pa_cons (pv 5) pa_nil))))))) ht)), ?_⟩
  intro D H a S R n p x2 x3 x8 x9 x10 x11 x12 vs x lf ns ps T hn hs fs okn hp fp okp hx lx hle hgt k
  refine ⟨_, rfl, S, R, n, rfl, by omega, T, fun H1 y T s1 by_ ly => ⟨(by decide : 2 ≤ sizeLine), fun t1 m1 => ⟨(by decide : 1 ≤ sizeLine), fun l8 m2 => ?_⟩⟩⟩
  obtain ⟨T, s2, g1⟩ := new_obj (o := .tup [.str "bare", .str y]) T m1
  obtain ⟨T, s3, g2⟩ := new_obj (o := .lst [.ref t1]) T m2
  have g1 := s3 _ _ g1
  have c := (s1.trans s2).trans s3
  have hq : LP K (U S R (L2.upd (L2.upd H1 t1 (.tup [.str "bare", .str y])) l8 (.lst [.ref t1]))) l8 [.bare y] := ⟨_, g2, .cons (.tup (SqT.of g1) (.cons (.str _) (.cons (.str _) .nil))) .nil⟩
  have hs := dp_same c hs
  have hp := hp.same c
  generalize L2.upd (L2.upd H1 t1 (.tup [.str "bare", .str y])) l8 (.lst [.ref t1]) = H2 at T hq hs hp ⊢
  have fq : Wfit [Pc.bare y] := ⟨(by decide : 1 ≤ 1000), fun q m => by
    rcases List.mem_singleton.mp m with rfl
    exact bare_fit by_ ly⟩
  have okq : fullB [Pc.bare y] = true := by
    show (true && ((isBareB (cs y) && true) && !false)) = true
    rw [by_]
    rfl
  have leaf : ∀ (b : Bool) (H9 : Hp), Same H2 H9 → b = (decide (1 < p) && (ns.isEmpty && (decide (ps.length = 1) && lkB x))) → t D [some (.ref a), some (.ref S), x2, x3, some vs, some (.str x), some (.ref lf), some (.int p), some (.ref l8), some (.bl b), x10, x11, x12] H9 := fun b H9 s9 e =>
    rd D H9 a S R (n + 9) p x2 x3 x10 x11 x12 vs x lf l8 b ns ps [.bare y] (T.same s9) (by omega) (dp_same (U_same s9) hs) fs okn (hp.same (U_same s9)) fp okp (hq.same (U_same s9)) fq okq hx lx hle hgt e k
  refine ⟨_, rfl, _, _, rfl, rfl, _, rfl, if_by (fun e => ?_) (fun e => leaf false H2 (Same.refl H2) ?_)⟩
  · have h1 : 1 < p := by
      have := of_decide_eq_true e
      omega
    refine rd_eqnil rfl (dp_same U_back hs) (sh_sets fs) fun H3 s3 => ⟨_, rfl, if_by (fun e2 => ?_) (fun e2 => leaf false H3 s3 ?_)⟩
    · have e2' : ns.isEmpty = true := by
        cases ns with
        | nil => rfl
        | cons _ _ => cases e2
      obtain ⟨xs, g, dl⟩ := hp
      have lx2 := dpLen dl
      rw [List.length_map] at lx2
      refine ⟨_, rfl, lf, xs, rfl, .inl (SqL.of (s3 _ _ (U_back _ _ g))), rfl, _, rfl, if_by (fun e4 => ?_) (fun e4 => leaf false H3 s3 ?_)⟩
      · have l1 : ps.length = 1 := by
          have z := V.int.inj (of_decide_eq_true e4)
          omega
        refine ⟨_, rfl, x, rfl, ?_, fun H4 s4 => leaf (lkB x) H4 (s3.trans s4) ?_⟩
        · unfold big
          omega
        · rw [decide_eq_true h1, e2', decide_eq_true l1]
          rfl
      · have l1 : ¬ ps.length = 1 := fun z => of_decide_eq_false e4 (congrArg V.int (by rw [lx2, z]; rfl))
        rw [decide_eq_false l1, Bool.false_and, Bool.and_false, Bool.and_false]
    · have e2' : ns.isEmpty = false := by
        cases ns with
        | nil => cases e2
        | cons _ _ => rfl
      rw [e2', Bool.false_and, Bool.and_false]
  · have h1 : ¬ 1 < p := by
      have := of_decide_eq_false e
      omega
    rw [decide_eq_false h1, Bool.false_and]
end Qb
end PySem
namespace PySem
namespace Qb
open PySem.W PySem.Calls PyProof.Rows L2
theorem nb_two (p q : Pc) (r : List Pc) : nbB "bare" ((p :: q :: r).map Pc.d) = ((p.isBare && q.isBare) || nbB "bare" ((q :: r).map Pc.d)) := by
  rw [← head_bare p, ← head_bare q]
  rfl
theorem nb_one (p : Pc) : nbB "bare" ([p].map Pc.d) = false := rfl
def More (m : List Pc) : Prop := m = [] ∨ m = [.held ""] ∨ m = [.nam]
theorem more_nb {m : List Pc} (h : More m) (p : Pc) : nbB "bare" ((p :: m).map Pc.d) = false := by
  rcases h with rfl | rfl | rfl
  · exact nb_one p
  · rw [nb_two, nb_one]
    show ((p.isBare && false) || false) = false
    rw [Bool.and_false, Bool.or_false]
  · rw [nb_two, nb_one]
    show ((p.isBare && false) || false) = false
    rw [Bool.and_false, Bool.or_false]
theorem more_ok {m : List Pc} (h : More m) : m.all Pc.ok = true := by
  rcases h with rfl | rfl | rfl <;> decide +kernel
theorem more_fit {m : List Pc} (h : More m) : m.length ≤ 1 ∧ ∀ p ∈ m, p.fit := by
  rcases h with rfl | rfl | rfl
  · exact ⟨by decide, fun p m => by cases m⟩
  · refine ⟨by decide, fun p m => ?_⟩
    rcases List.mem_singleton.mp m with rfl
    exact ⟨by show ("" : Str).length ≤ big; decide +kernel, by decide +kernel⟩
  · refine ⟨by decide, fun p m => ?_⟩
    rcases List.mem_singleton.mp m with rfl
    exact ⟨trivial, by decide +kernel⟩
theorem full1 {x : Str} {m : List Pc} (hx : isBareB (cs x) = true) (h : More m) : fullB (.bare x :: m) = true := by
  show (true && ((isBareB (cs x) && m.all Pc.ok) && !nbB "bare" ((.bare x :: m).map Pc.d))) = true
  rw [hx, more_ok h, more_nb h]
  rfl
theorem full2 {x : Str} {m : List Pc} (hx : isBareB (cs x) = true) (h : More m) : fullB (.held x :: .bare x :: m) = true := by
  show (true && (((!decide (39 ∈ cs x)) && (isBareB (cs x) && m.all Pc.ok)) && !nbB "bare" ((.held x :: .bare x :: m).map Pc.d))) = true
  rw [hx, more_ok h, nb_two, more_nb h, decide_eq_false (bare_quote (bare_to hx).2)]
  rfl
theorem full3 {x : Str} (hx : isBareB (cs x) = true) : fullB [.wide0, .bare x] = true := by
  show (true && ((true && (isBareB (cs x) && true)) && !nbB "bare" ([.wide0, .bare x].map Pc.d))) = true
  rw [hx, nb_two, nb_one]
  rfl
theorem fw2 {x : Str} {m : List Pc} {ns : List Str} : fwB (.held x :: .bare x :: m) ns = true := by
  show (!(ns.isEmpty && false) && !(false && beginsB (cs x))) = true
  cases ns.isEmpty <;> rfl
theorem fw3 {x : Str} {ns : List Str} : fwB [.wide0, .bare x] ns = true := by
  show (!(ns.isEmpty && false) && !(false && beginsB (cs ("" : Str)))) = true
  cases ns.isEmpty <;> rfl
theorem law_m1 {P : Program} {w : World} {K : Frag} {mg : Str → Option Value} {base : Heap} {f fS fD fN fR fK fL fI : Addr} {dS dD dN dR dK dL dI : FuncData} (W : Wrt mg) (B : Blt mg) (Z : LawG P w K mg base fS fD fN fR fK fL fI dS dD dN dR dK dL dI)
    (cdv : Value) (A : Around) (outer : List Env) (s : Shared) (H0 : Hp) (E : XK) (hr : Room 12 (cxOf CX0 P w K mg base nLw "law" (defScope sLaw) f cdv A outer s H0 E).A) :
    ∃ t, PSs (cxOf CX0 P w K mg base nLw "law" (defScope sLaw) f cdv A outer s H0 E).nox (forBody.drop 1) t ∧
      ∀ (D : Ends) (H : Hp) (a S R : Addr) (n : Nat) (x2 x3 x5 x6 x7 x8 x9 x10 x11 x12 : Option V) (vs : V) (ns : List Str), St H S R n → n ≤ 500 →
        Dp K (U S R H) vs (setsD ns) → Sfit ns → (ns.all fun n => isNameB (cs n)) = true →
        (∀ σ' H', (∃ y2 y3 y4 y5 y6 y7 y8 y9 y10 y11 y12, σ' = [some (.ref a), some (.ref S), y2, y3, y4, y5, y6, y7, y8, y9, y10, y11, y12]) → St H' S R (n + 22) → D.nx σ' H') →
        t D [some (.ref a), some (.ref S), x2, x3, some vs, x5, x6, x7, x8, x9, x10, x11, x12] H := by
  obtain ⟨t, ht, rd⟩ := law_m7 W B Z cdv A outer s H0 E hr
  refine ⟨_, (pss_cons (ps_set (i := 5) scLw.nd rfl (.inl rfl) (pe_call Z.GR (hr.mono (by decide)) rfl Z.gR Z.kR Z.bR .nil pass0 (pa_cons (pv 1) pa_nil)))
      (pss_cons (ps_set (i := 6) scLw.nd rfl (.inl rfl) (pe_lst (pa_cons (pe_tup (pa_cons pe_str (pa_cons (pv 5) pa_nil))) pa_nil)))
      (pss_cons (ps_set (i := 6) scLw.nd rfl (.inl rfl) (pe_op op_cat (pv 6) (pe_ix ix_list (pe_lst (pa_cons (pe_lst pa_nil) (pa_cons (pe_lst pa_nil) (pa_cons (pe_lst (pa_cons (pe_tup (pa_cons pe_str (pa_cons pe_str pa_nil))) pa_nil)) (pa_cons (pe_lst (pa_cons (pe_tup (pa_cons pe_str (pa_cons pe_str (pa_cons (pe_tup pa_nil) pa_nil)))) pa_nil)) pa_nil)))))
          (pe_call Z.GD (hr.mono (by decide)) rfl Z.gD Z.kD Z.bD .nil pass0 (pa_cons (pv 1) (pa_cons pe_int pa_nil))) (fun _ _ => rfl))))
      (pss_cons (ps_set (i := 7) scLw.nd rfl (.inl rfl) (pe_call Z.GD (hr.mono (by decide)) rfl Z.gD Z.kD Z.bD .nil pass0 (pa_cons (pv 1) (pa_cons pe_int pa_nil))))
      (pss_cons (ps_if (pt_cmpR op_eq (pv 7) pe_int (nomark _)) (pss_one (ps_set (i := 6) scLw.nd rfl (.inl rfl) (pe_op op_cat (pe_lst (pa_cons (pe_tup (pa_cons pe_str (pa_cons (pv 5) pa_nil))) pa_nil)) (pv 6)))) pss_nil)
      (pss_cons (ps_if (pt_cmpR op_eq (pv 7) pe_int (nomark _)) (pss_one (ps_set (i := 6) scLw.nd rfl (.inl rfl) (pe_lst (pa_cons (pe_tup (pa_cons pe_str (pa_cons (pe_lst pa_nil) pa_nil))) (pa_cons (pe_tup (pa_cons pe_str (pa_cons (pv 5) pa_nil))) pa_nil))))) pss_nil)
      ht)))))), ?_⟩
  intro D H a S R n x2 x3 x5 x6 x7 x8 x9 x10 x11 x12 vs ns T hn hs fs okn k
  refine ⟨_, rfl, S, R, n, rfl, by omega, T, fun H1 x T s1 bx lx => ?_⟩
  have hs := dp_same s1 hs
  have fx := bare_fit bx lx
  refine ⟨_, rfl, (by decide : 2 ≤ sizeLine), fun t1 m1 => ⟨(by decide : 1 ≤ sizeLine), fun l1 m2 => ?_⟩⟩
  obtain ⟨T, s2, g⟩ := new_obj (o := .tup [.str "bare", .str x]) T m1
  have dt : Dp K (U S R (L2.upd H1 t1 (.tup [.str "bare", .str x]))) (.ref t1) (Pc.bare x).d := .tup (SqT.of g) (.cons (.str _) (.cons (.str _) .nil))
  obtain ⟨T, s3, g⟩ := new_obj (o := .lst [.ref t1]) T m2
  have dt := dp_same s3 dt
  have hs := dp_same (s2.trans s3) hs
  generalize L2.upd (L2.upd H1 t1 (.tup [.str "bare", .str x])) l1 (.lst [.ref t1]) = H2 at T g dt hs ⊢
  refine ⟨_, rfl, (by decide : 0 ≤ sizeLine), fun e1 m => ?_⟩
  obtain ⟨T, s, h1⟩ := new_obj (o := .lst []) T m
  have g := s _ _ g
  have dt := dp_same s dt
  have hs := dp_same s hs
  generalize L2.upd H2 e1 (.lst []) = H3 at T g dt hs h1 ⊢
  refine ⟨(by decide : 0 ≤ sizeLine), fun e2 m => ?_⟩
  obtain ⟨T, s, h2⟩ := new_obj (o := .lst []) T m
  have g := s _ _ g
  have dt := dp_same s dt
  have hs := dp_same s hs
  have h1 := s _ _ h1
  generalize L2.upd H3 e2 (.lst []) = H4 at T g dt hs h1 h2 ⊢
  refine ⟨(by decide : 2 ≤ sizeLine), fun t2 m => ?_⟩
  obtain ⟨T, s, z⟩ := new_obj (o := .tup [.str "held", .str ""]) T m
  have g := s _ _ g
  have dt := dp_same s dt
  have hs := dp_same s hs
  have h1 := s _ _ h1
  have h2 := s _ _ h2
  have d2 : Dp K (U S R (L2.upd H4 t2 (.tup [.str "held", .str ""]))) (.ref t2) (Pc.held "").d := .tup (SqT.of z) (.cons (.str _) (.cons (.str _) .nil))
  generalize L2.upd H4 t2 (.tup [.str "held", .str ""]) = H5 at T g dt hs h1 h2 d2 ⊢
  refine ⟨(by decide : 1 ≤ sizeLine), fun e3 m => ?_⟩
  obtain ⟨T, s, h3⟩ := new_obj (o := .lst [.ref t2]) T m
  have g := s _ _ g
  have dt := dp_same s dt
  have hs := dp_same s hs
  have h1 := s _ _ h1
  have h2 := s _ _ h2
  have d2 := dp_same s d2
  generalize L2.upd H5 e3 (.lst [.ref t2]) = H6 at T g dt hs h1 h2 h3 d2 ⊢
  refine ⟨(by decide : 0 ≤ sizeLine), fun t3 m => ?_⟩
  obtain ⟨T, s, z⟩ := new_obj (o := .tup []) T m
  have g := s _ _ g
  have dt := dp_same s dt
  have hs := dp_same s hs
  have h1 := s _ _ h1
  have h2 := s _ _ h2
  have h3 := s _ _ h3
  have d2 := dp_same s d2
  have d3 : Dp K (U S R (L2.upd H6 t3 (.tup []))) (.ref t3) (.tuple []) := .tup (SqT.of z) .nil
  generalize L2.upd H6 t3 (.tup []) = H7 at T g dt hs h1 h2 h3 d2 d3 ⊢
  refine ⟨(by decide : 3 ≤ sizeLine), fun t4 m => ?_⟩
  obtain ⟨T, s, z⟩ := new_obj (o := .tup [.str "name", .str "x", .ref t3]) T m
  have g := s _ _ g
  have dt := dp_same s dt
  have hs := dp_same s hs
  have h1 := s _ _ h1
  have h2 := s _ _ h2
  have h3 := s _ _ h3
  have d2 := dp_same s d2
  have d3 := dp_same s d3
  have d4 : Dp K (U S R (L2.upd H7 t4 (.tup [.str "name", .str "x", .ref t3]))) (.ref t4) Pc.nam.d := .tup (SqT.of z) (.cons (.str _) (.cons (.str _) (.cons d3 .nil)))
  generalize L2.upd H7 t4 (.tup [.str "name", .str "x", .ref t3]) = H8 at T g dt hs h1 h2 h3 d2 d4 ⊢
  refine ⟨(by decide : 1 ≤ sizeLine), fun e4 m => ?_⟩
  obtain ⟨T, s, h4⟩ := new_obj (o := .lst [.ref t4]) T m
  have g := s _ _ g
  have dt := dp_same s dt
  have hs := dp_same s hs
  have h1 := s _ _ h1
  have h2 := s _ _ h2
  have h3 := s _ _ h3
  have d2 := dp_same s d2
  have d4 := dp_same s d4
  generalize L2.upd H8 e4 (.lst [.ref t4]) = H9 at T g dt hs h1 h2 h3 h4 d2 d4 ⊢
  refine ⟨(by decide : 4 ≤ sizeLine), fun lL m => ?_⟩
  obtain ⟨T, s, gL⟩ := new_obj (o := .lst [.ref e1, .ref e2, .ref e3, .ref e4]) T m
  obtain ⟨rs0, j0, T0, l0⟩ := T
  refine ⟨_, rfl, S, R, rs0, j0, _, rfl, by decide, by decide, by omega, T0, fun HA r0 rs1 z0 hr1 z2 z3 => ?_⟩
  obtain ⟨r, rfl, T, s9⟩ := drew z0 z2 l0 z3
  have gL := s9 _ _ gL
  have s := s.trans s9
  have g := s _ _ g
  have dt := dp_same s dt
  have hs := dp_same s hs
  have h1 := s _ _ h1
  have h2 := s _ _ h2
  have h3 := s _ _ h3
  have h4 := s _ _ h4
  have d2 := dp_same s d2
  have d4 := dp_same s d4
  obtain ⟨b, zs, more, hv, hb, dz, hm⟩ : ∃ (b : Addr) (zs : List V) (more : List Pc), ([V.ref e1, V.ref e2, V.ref e3, V.ref e4])[r]? = some (.ref b) ∧ U S R HA b = some (.lst zs) ∧ DpAll K (U S R HA) zs (more.map Pc.d) ∧ More more := by
    have hr4 : r < 4 := by omega
    match r, hr4 with
    | 0, _ => exact ⟨e1, [], [], rfl, h1, .nil, .inl rfl⟩
    | 1, _ => exact ⟨e2, [], [], rfl, h2, .nil, .inl rfl⟩
    | 2, _ => exact ⟨e3, _, [.held ""], rfl, h3, .cons d2 .nil, .inr (.inl rfl)⟩
    | 3, _ => exact ⟨e4, _, [.nam], rfl, h4, .cons d4 .nil, .inr (.inr rfl)⟩
  have lz : zs.length ≤ 1 := by
    rw [dpLen dz, List.length_map]
    exact (more_fit hm).1
  refine ⟨lL, _, _, _, rfl, rfl, SqL.of (U_back _ _ gL), atI_nat hv, l1, b, _, zs, rfl, rfl, U_back _ _ g, U_back _ _ hb, ?_, fun l2 m => ?_⟩
  · rw [sizeLine_eq]
    show 1 + zs.length ≤ _
    omega
  obtain ⟨T, s, g2⟩ := new_obj (o := .lst ([.ref t1] ++ zs)) T m
  have hs := dp_same s hs
  have hp : LP K (U S R (L2.upd HA l2 (.lst ([.ref t1] ++ zs)))) l2 (.bare x :: more) := ⟨_, g2, .cons (dp_same s dt) (dpAll_same s dz)⟩
  generalize L2.upd HA l2 (.lst ([.ref t1] ++ zs)) = HB at T hs hp ⊢
  obtain ⟨rs2, j2, T2, l3⟩ := T
  refine ⟨_, rfl, S, R, rs2, j2, _, rfl, by decide, by decide, by omega, T2, fun HC r3 rs3 y0 hr3 y2 y3 => ?_⟩
  obtain ⟨p, rfl, T, s8⟩ := drew y0 y2 l3 y3
  have hs := dp_same s8 hs
  have hp := hp.same s8
  have leaf : ∀ (H9 : Hp) (l9 : Addr) (ps : List Pc), St H9 S R (n + 11) → Same (U S R HC) (U S R H9) → LP K (U S R H9) l9 ps → Wfit ps → fullB ps = true → (p ≤ 1 → fwB ps ns = true) → (1 < p → ∃ more, ps = .bare x :: more) →
      t D [some (.ref a), some (.ref S), x2, x3, some vs, some (.str x), some (.ref l9), some (.int p), x8, x9, x10, x11, x12] H9 := fun H9 l9 ps T9 s9 hp9 fp9 okp9 hle hgt =>
    rd D H9 a S R (n + 11) p x2 x3 x8 x9 x10 x11 x12 vs x l9 ns ps T9 (by omega) (dp_same s9 hs) fs okn hp9 fp9 okp9 bx lx hle hgt k
  have lm := (more_fit hm).1
  have fm := (more_fit hm).2
  refine ⟨_, rfl, rfl, _, rfl, if_by (fun e => ?_) (fun e => ?_)⟩
  · have p0 : p = 0 := by
      have := V.int.inj (of_decide_eq_true e)
      omega
    refine ⟨_, rfl, (by decide : 2 ≤ sizeLine), fun t5 m1 => ⟨(by decide : 1 ≤ sizeLine), fun l3 m2 => ?_⟩⟩
    obtain ⟨T, s1, z⟩ := new_obj (o := .tup [.str "held", .str x]) T m1
    have d5 : Dp K (U S R (L2.upd HC t5 (.tup [.str "held", .str x]))) (.ref t5) (Pc.held x).d := .tup (SqT.of z) (.cons (.str _) (.cons (.str _) .nil))
    obtain ⟨T, s2, g3⟩ := new_obj (o := .lst [.ref t5]) T m2
    have d5 := dp_same s2 d5
    have s12 := s1.trans s2
    obtain ⟨ys, gy, dy⟩ := hp.same s12
    have ly := dpLen dy
    rw [List.length_map, List.length_cons] at ly
    refine ⟨_, rfl, l3, l2, _, ys, rfl, rfl, upd_same, U_back _ _ gy, ?_, fun l4 m3 => ?_⟩
    · rw [sizeLine_eq]
      show 1 + ys.length ≤ _
      omega
    obtain ⟨T, s3, g4⟩ := new_obj (o := .lst ([.ref t5] ++ ys)) T m3
    refine ⟨_, rfl, rfl, _, rfl, if_no (by rw [p0]; decide +kernel) (leaf _ l4 (.held x :: .bare x :: more) (T.le (by omega)) (s12.trans s3) ⟨_, g4, .cons (dp_same s3 d5) (dpAll_same s3 dy)⟩ ⟨?_, fun q m => ?_⟩ (full2 bx hm) (fun _ => fw2) (fun h => by omega))⟩
    · show more.length + 1 + 1 ≤ 1000
      omega
    · rcases List.mem_cons.mp m with rfl | m
      · exact held_fit (bare_to bx).2 lx
      · rcases List.mem_cons.mp m with rfl | m
        · exact fx
        · exact fm q m
  · refine ⟨_, rfl, rfl, _, rfl, if_by (fun e2 => ?_) (fun e2 => ?_)⟩
    · have p1 : p = 1 := by
        have := V.int.inj (of_decide_eq_true e2)
        omega
      refine ⟨(by decide : 0 ≤ sizeLine), fun q1 m1 => ⟨(by decide : 2 ≤ sizeLine), fun q2 m2 => ⟨_, rfl, (by decide : 2 ≤ sizeLine), fun q3 m3 => ⟨(by decide : 2 ≤ sizeLine), fun l5 m4 => ?_⟩⟩⟩⟩
      obtain ⟨T, s1, z1⟩ := new_obj (o := .lst []) T m1
      obtain ⟨T, s2, z2⟩ := new_obj (o := .tup [.str "wide", .ref q1]) T m2
      have z1 := s2 _ _ z1
      obtain ⟨T, s3, z3⟩ := new_obj (o := .tup [.str "bare", .str x]) T m3
      have z1 := s3 _ _ z1
      have z2 := s3 _ _ z2
      obtain ⟨T, s4, z4⟩ := new_obj (o := .lst [.ref q2, .ref q3]) T m4
      have z1 := s4 _ _ z1
      have z2 := s4 _ _ z2
      have z3 := s4 _ _ z3
      refine leaf _ l5 [.wide0, .bare x] (T.le (by omega)) (((s1.trans s2).trans s3).trans s4) ⟨_, z4, .cons (.tup (SqT.of z2) (.cons (.str _) (.cons (.lst (SqL.of z1) .nil) .nil))) (.cons (.tup (SqT.of z3) (.cons (.str _) (.cons (.str _) .nil))) .nil)⟩ ⟨(by decide : 2 ≤ 1000), fun q m => ?_⟩ (full3 bx) (fun _ => fw3) (fun h => by omega)
      rcases List.mem_cons.mp m with rfl | m
      · exact ⟨trivial, by decide +kernel⟩
      · rcases List.mem_singleton.mp m with rfl
        exact fx
    · have p2 : 1 < p := by
        have h1 := of_decide_eq_false e
        have h2 := of_decide_eq_false e2
        have n0 : p ≠ 0 := fun z => h1 (by rw [z]; rfl)
        have n1 : p ≠ 1 := fun z => h2 (by rw [z]; rfl)
        omega
      refine leaf HC l2 (.bare x :: more) (T.le (by omega)) (Same.refl _) hp ⟨?_, fun q m => ?_⟩ (full1 bx hm) (fun h => by omega) (fun _ => ⟨more, rfl⟩)
      · show more.length + 1 ≤ 1000
        omega
      · rcases List.mem_cons.mp m with rfl | m
        · exact fx
        · exact fm q m
end Qb
end PySem
namespace PySem
namespace Qb
open PySem.W PySem.Calls PyProof.Rows L2
theorem dpAll_app {K : Frag} {H : Hp} : ∀ {vs us : List V} {ds es : List PyData}, DpAll K H vs ds → DpAll K H us es → DpAll K H (vs ++ us) (ds ++ es)
  | _, _, _, _, .nil, h => h
  | _, _, _, _, .cons h t, h' => .cons h (dpAll_app t h')
theorem name_ok5 {n : Str} (h : isNameB (cs n) = true) (l : n.length ≤ 5) : n.length ≤ big ∧ PyData.strOk n = true := by
  refine ⟨?_, bare_ok fun c m => name_bare c (name_all h c m)⟩
  unfold big
  omega
theorem law_body {P : Program} {w : World} {K : Frag} {mg : Str → Option Value} {base : Heap} {f fS fD fN fR fK fL fI : Addr} {dS dD dN dR dK dL dI : FuncData} (W : Wrt mg) (B : Blt mg) (Z : LawG P w K mg base fS fD fN fR fK fL fI dS dD dN dR dK dL dI)
    (cdv : Value) (A : Around) (outer : List Env) (s : Shared) (H : Hp) (vs : List V) (Q : VK) (E : XK) (hr : Room 12 (cxOf CX0 P w K mg base nLw "law" (defScope sLaw) f cdv A outer s H E).A) (h : lawSp K vs H Q E) :
    ∃ t, PSs (cxOf CX0 P w K mg base nLw "law" (defScope sLaw) f cdv A outer s H E).nox (defBody sLaw) t ∧ t { nx := fun _ H' => Q .non H', rt := Q } (L2.start nLw vs) H := by
  obtain ⟨t, ht, rd⟩ := law_m1 W B Z cdv A outer s H E hr
  refine ⟨_, pss_cons (ps_set (i := 1) scLw.nd rfl (.inr rfl) (pe_call Z.GS (hr.mono (by decide)) rfl Z.gS Z.kS Z.bS .nil pass0 (pa_cons (pv 0) pa_nil)))
    (pss_cons (ps_for PassesOwn.never rfl (pi_range1 rfl B.range (pa_cons pe_int pa_nil)) (pg_name (i := 2) scLw.nd rfl (Or.inl rfl))
      (pss_cons (ps_setLc (i := 4) (own := [("_law_j", 3)]) (g := gName 3) (tt := tYes) rfl scLw.nd rfl rfl (sw_true rfl rfl rfl (by decide +kernel))
          (pi_range1 (by rfl) B.range (pa_cons (pe_ix ix_list (pe_lst (pa_cons pe_int (pa_cons pe_int (pa_cons pe_int (pa_cons pe_int pa_nil))))) (pe_call Z.GD (hr.mono (by decide)) rfl Z.gD Z.kD Z.bD .nil pass0 (pa_cons (pv 1) (pa_cons pe_int pa_nil))) (fun _ _ => rfl)) pa_nil))
          (blkOk_by (N := nLw) (sc := defScope sLaw) (by decide +kernel)) (fun _ _ _ _ _ => pg_name (i := 3) scLw.nd rfl (Or.inl rfl)) (fun _ _ _ _ _ => pts_nil)
          (fun _ _ _ _ _ => pe_tup (pa_cons (pe_call Z.GN (hr.mono (by decide)) rfl Z.gN Z.kN Z.bN .nil pass0 (pa_cons (pv 1) pa_nil)) (pa_cons (pe_lst pa_nil) pa_nil)))) ht))
    (pss_one (ps_ret pe_bl))), ?_⟩
  obtain ⟨a, ns, rfl, hS, hl, kk⟩ := h
  refine ⟨_, rfl, a, ns, rfl, hS, hl, fun H1 S R rs T0 _ _ _ => ?_⟩
  refine ⟨4, rfl, by decide, by decide, for_range (n := 4) (fun i σ H' => (∃ y2 y3 y4 y5 y6 y7 y8 y9 y10 y11 y12, σ = [some (.ref a), some (.ref S), y2, y3, y4, y5, y6, y7, y8, y9, y10, y11, y12]) ∧ St H' S R (40 * i))
    ⟨⟨_, _, _, _, _, _, _, _, _, _, _, rfl⟩, rs, 0, T0, Nat.le_refl _⟩ (fun i σ H2 hi p => ?_) (fun σ H2 p => kk H2)⟩
  obtain ⟨⟨y2, y3, y4, y5, y6, y7, y8, y9, y10, y11, y12, rfl⟩, T⟩ := p
  refine ⟨(by decide : 4 ≤ sizeLine), fun L m => ?_⟩
  obtain ⟨T, s1, g⟩ := new_obj (o := .lst [.int 0, .int 0, .int 1, .int 2]) T m
  obtain ⟨rs0, j0, T0, l0⟩ := T
  refine ⟨_, rfl, S, R, rs0, j0, _, rfl, by decide, by decide, by omega, T0, fun HA r0 rs1 z0 hr1 z2 z3 => ?_⟩
  obtain ⟨r, rfl, T, s2⟩ := drew z0 z2 l0 z3
  have g := s2 _ _ g
  obtain ⟨z, hz, lz⟩ : ∃ z : Nat, ([V.int 0, V.int 0, V.int 1, V.int 2])[r]? = some (.int (z : Nat)) ∧ z ≤ 2 := by
    have hr4 : r < 4 := by omega
    match r, hr4 with
    | 0, _ => exact ⟨0, rfl, by decide⟩
    | 1, _ => exact ⟨0, rfl, by decide⟩
    | 2, _ => exact ⟨1, rfl, by decide⟩
    | 3, _ => exact ⟨2, rfl, by decide⟩
  refine ⟨L, _, _, _, rfl, rfl, SqL.of (U_back _ _ g), atI_nat hz, (z : Nat), rfl, by omega, by omega, fun D hD => ?_⟩
  obtain ⟨dS, dR⟩ := T.ne hD
  have hDU : U S R HA D = none := U_none hD
  refine lc_it (walk_range (lo := 0) (n := ((z : Nat) : Int).toNat)) (fun i' H' => St H' S R (40 * i + 1 + 7 * i') ∧ ∃ ys ns, H' D = some (.lst ys) ∧ ns.length = i' ∧ DpAll K (hide (U S R H') D) ys (ns.map fun n => .tuple [.str n, .list []]) ∧ ∀ n ∈ ns, isNameB (cs n) = true ∧ n.length ≤ 5)
    ⟨T.upd (T.ne hD), [], [], upd_same, rfl, .nil, fun n m => by cases m⟩ (fun _ _ _ _ => trivial) (fun i' x H' H3 hi' e y => ?_) (fun H' e => ?_)
  · obtain ⟨T, ys, ns, hDy, hlen, dl, hns⟩ := e
    obtain ⟨rfl, rfl⟩ := y
    have hi2 : i' < z := by omega
    refine ⟨rfl, _, rfl, S, R, 40 * i + 1 + 7 * i', rfl, by omega, T, fun H4 nm T4 s4 nx nl => ⟨(by decide : 0 ≤ sizeLine), fun e1 m1 => ⟨(by decide : 2 ≤ sizeLine), fun t1 m2 => ?_⟩⟩⟩
    have hDU' : U S R H3 D = some (.lst ys) := U_set hDy dS dR
    have hD4 := s4 _ _ hDU'
    obtain ⟨T5, s5, g1⟩ := new_obj (o := .lst []) T4 m1
    obtain ⟨T6, s6, g2⟩ := new_obj (o := .tup [.str nm, .ref e1]) T5 m2
    have g1 := s6 _ _ g1
    have sA := (s4.trans s5).trans s6
    have hD6 := sA _ _ hDU'
    have ly := dpLen dl
    rw [List.length_map] at ly
    have eD : e1 ≠ D := fun z => by
      rw [z] at m1
      rw [U_back _ _ hD4] at m1
      cases m1
    have tD : t1 ≠ D := fun z => by
      have q := U_back _ _ (s5 _ _ hD4)
      rw [z] at m2
      rw [q] at m2
      cases m2
    have sX : Same (hide (U S R H3) D) (hide (U S R (L2.upd (L2.upd (L2.upd H4 e1 (.lst [])) t1 (.tup [.str nm, .ref e1])) D (.lst (ys ++ [V.ref t1])))) D) := by
      refine (hide_mono (W := D) sA).trans fun b u h => ?_
      have h0 := hide_same _ _ h
      have nb : b ≠ D := fun z => by
        unfold hide at h
        rw [if_pos z] at h
        cases h
      obtain ⟨n1, n2, h3⟩ := U_get h0
      exact hide_ne (U_set (by rw [upd_ne nb]; exact h3) n1 n2) nb
    have up : ∀ b o, U S R (L2.upd (L2.upd H4 e1 (.lst [])) t1 (.tup [.str nm, .ref e1])) b = some o → b ≠ D → hide (U S R (L2.upd (L2.upd (L2.upd H4 e1 (.lst [])) t1 (.tup [.str nm, .ref e1])) D (.lst (ys ++ [V.ref t1])))) D b = some o := fun b o h nb => by
      obtain ⟨n1, n2, h3⟩ := U_get h
      exact hide_ne (U_set (by rw [upd_ne nb]; exact h3) n1 n2) nb
    refine ⟨ys, U_back _ _ hD6, ?_, (T6.upd ⟨dS, dR⟩).le (by omega), ys ++ [.ref t1], ns ++ [nm], upd_same, by rw [List.length_append, hlen]; rfl, ?_, ?_⟩
    · rw [sizeLine_eq]
      omega
    · rw [List.map_append]
      exact dpAll_app (dpAll_same sX dl) (.cons (.tup (SqT.of (up _ _ g2 tD)) (.cons (.str _) (.cons (.lst (SqL.of (up _ _ g1 eD)) .nil) .nil))) .nil)
    · intro n m
      rcases List.mem_append.mp m with m | m
      · exact hns n m
      · rcases List.mem_singleton.mp m with rfl
        exact ⟨nx, nl⟩
  · obtain ⟨T, ys, ns, hDy, hlen, dl, hns⟩ := e
    refine rd _ H' a S R (40 * i + 1 + 7 * z) (some (.int (0 + (i : Nat)))) y3 y5 y6 y7 y8 y9 y10 y11 y12 (.ref D) ns (T.le (by omega)) (by omega) (.lst (SqL.of (U_set hDy dS dR)) (dpAll_same hide_same dl)) ⟨by omega, fun n m => name_ok5 (hns n m).1 (hns n m).2⟩ ?_ (fun σ' H5 hσ T5 => ⟨hσ, T5.le (by omega)⟩)
    rw [List.all_eq_true]
    exact fun n m => (hns n m).1
end Qb
end PySem
namespace PySem
namespace Qb
open PySem.W PySem.Calls PyProof.Rows L2
/-- a def of the text called from one place that is known: its body need hold there alone -/
theorem run_at {P : Program} {w : World} {K : Frag} {mg : Str → Option Value} {base : Heap} {k : Nat} {x qual : Str} {st : Stmt} {f : Addr} {fd : FuncData} {N ps : List Str} {A : Around} {outer : List Env} {s : Shared} {H : Hp} {args : Args} {us : List Value} {vs : List V} {Q : VK}
    (F : Fun K x qual st f fd) (S : FnScope N ps (defScope st)) (hr : Room (k + 1) A) (e0 : Env0 P w K mg base A outer s H) (hb : BindsTo s fd args (ps.zip us)) (r : Vals vs us) (hl : vs.length = ps.length)
    (body : ∀ cdv, ∃ t, PSs (cxOf CX0 P w K mg base N qual (defScope st) f cdv A outer s H E0).nox (defBody st) t ∧ t { nx := fun _ H' => Q .non H', rt := Q } (L2.start N vs) H) :
    codeAny (model P w) A (.call (.ref f) args) (CR CX0 outer P w H s Q E0) s := by
  obtain ⟨oc, od, kV, doc, pm, an, cdv, ct, osl, rfl, lk, hcd⟩ := F.ex
  have here : K.In s.heap := e0.mod.kin.keeps fun b o z => (e0.bs b o z).1
  have room : s.heap.NoLimit := e0.mod.nolimit.keeps fun b o z => (e0.bs b o z).1
  refine codeAny_call_function hr.depth (here _ _ lk) rfl S.co S.gen rfl (codeRec_of here hcd) (hb _ _ _ _ ?_)
  refine wpAny_newFunctionEnv_cells S.kind (fun y hy => ?_) fun env he s1 hin => ?_
  · obtain ⟨n, v⟩ := y
    rcases S.par n (List.of_mem_zip hy).1 with z | z
    · exact .inl z
    · exact .inr ⟨z, cellsFrom_some _ _ _ (.inl z)⟩
  · subst he
    obtain ⟨t, ht, rd⟩ := body cdv
    have I : Inv (cxOf CX0 P w K mg base N qual (defScope st) f cdv A outer s H E0) [] (L2.start N vs) H s1 := inv_start S hr.hd e0 hl r hin
    refine ⟨room.keeps hin.toInCall.keep, codeAny_func (wpAny_mono (ht.nox.run [] s1 _ H _ I rd) (fun fl s2 hs => ?_) fun e s2 hs => hs)⟩
    have fin : ∀ {σ2 : L2.St} {H2 : Hp} {v : V} {u : Value}, Inv (cxOf CX0 P w K mg base N qual (defScope st) f cdv A outer s H E0) [] σ2 H2 s2 → RelV v u → Q v H2 → CE outer P w H s Q u s2 :=
      fun J rv q => ⟨_, _, J.os, J.bare, J.base, J.hok, rv, q⟩
    cases fl with
    | ret u =>
      obtain ⟨v, σ2, H2, J, rv, q⟩ := hs
      exact fin J rv q
    | next =>
      obtain ⟨σ2, H2, J, q⟩ := hs
      exact fin (v := .non) (u := .none) J rfl q
    | brk =>
      obtain ⟨_, _, _, z⟩ := hs
      exact (z : False).elim
    | cont =>
      obtain ⟨_, _, _, z⟩ := hs
      exact (z : False).elim
/-- the law is called over the script: what the body needs is laid out -/
theorem law_at {P : Program} {w : World} {K : Frag} {mg mb : Str → Option Value} {fa a : Addr} {s : Shared} {vs : List Value} {ns : List Int}
    (KX : K.In s.heap) (hns : s.heap.Ns mainGlobals mg) (hb : s.heap.Ns builtinsNs mb) (hbb : ∀ x : Str, x ≠ "__name__" → mb x = bootBuiltins x) (lim : s.heap.NoLimit) (hg : s.gens = #[])
    (ha : s.heap.get? a = some { cls := .type "list", data := .seq vs.toArray }) (hi : IntsAre vs ns) (hl : ns.length ≤ sizeLine)
    (run : ∀ (base : Heap) (H : Hp), K.In base → base.Ns mainGlobals mg → Env0 P w K mg base callerA [] s H → SqL K H a (ns.map V.int) →
      codeAny (model P w) callerA (.call (.ref fa) ⟨[.ref a], []⟩) (CR CX0 [] P w H s (fun v _ => v = .bl true) E0) s) :
    codeAny (model P w) callerA (.call (.ref fa) ⟨[.ref a], []⟩) (fun r s' => r = .ok (.ret (.bool true)) ∧ OldK s.heap s'.heap ∧ s'.os = s.os ∧ AllBare s'.gens) s := by
  have rel := vals_ints hi
  have many := hi.length
  -- the script is tracked, as a thing that is known, where it is none of the module's own
  obtain ⟨H, hH⟩ : ∃ H : Hp, ∀ b, H b = if b = a ∧ K.lookup a = none then some (.frz { cls := .type "list", data := .seq vs.toArray } (.lst (ns.map V.int))) else none := ⟨_, fun _ => rfl⟩
  have only : ∀ b u, H b = some u → b = a ∧ K.lookup a = none ∧ u = .frz { cls := .type "list", data := .seq vs.toArray } (.lst (ns.map V.int)) := fun b u z => by
    rw [hH] at z
    by_cases c : b = a ∧ K.lookup a = none
    · rw [if_pos c] at z
      exact ⟨c.1, c.2, (Option.some.inj z).symm⟩
    · rw [if_neg c] at z
      cases z
  have sq : SqL K H a (ns.map V.int) := by
    cases hk : K.lookup a with
    | none => exact .inl (.inr ⟨_, by rw [hH]; exact if_pos ⟨rfl, hk⟩⟩)
    | some o =>
      have e := KX a o hk
      rw [ha] at e
      cases e
      exact .inr ⟨_, vs.toArray, _, hk, rfl, rfl, rfl, by rw [List.size_toArray, many]; exact hl, by simpa using rel⟩
  have ok : HOk P w H s.heap := fun b u z => by
    obtain ⟨rfl, _, rfl⟩ := only b u z
    exact ⟨ha, by rw [List.length_map]; exact hl, vs, _, rel, ha⟩
  have kept : ∀ b o, s.heap.get? b = some o → H b = none → (hidT s.heap H).get? b = some o := fun b o z n => hidT_get z n
  have baseK : K.In (hidT s.heap H) := fun b o z => kept b o (KX b o z) (by
    cases q : H b with
    | none => rfl
    | some u =>
      obtain ⟨rfl, n, _⟩ := only b u q
      rw [n] at z
      cases z)
  have baseN : ∀ (b : Addr) (m : Str → Option Value), s.heap.Ns b m → (hidT s.heap H).Ns b m := fun b m ⟨o, es, ep, z, d, r⟩ => ⟨o, es, ep, kept b o z (by
    cases q : H b with
    | none => rfl
    | some u =>
      obtain ⟨rfl, _, _⟩ := only b u q
      rw [ha] at z
      cases z
      cases d), d, r⟩
  have env : Env0 P w K mg (hidT s.heap H) callerA [] s H := {
    frames := rfl
    mod := ⟨baseK, baseN _ _ hns, ⟨mb, baseN _ _ hb, hbb⟩, let ⟨m, z1, z2⟩ := lim; ⟨m, baseN _ _ z1, z2⟩⟩
    bs := fun b o z => of_hidT z
    bsz := Nat.le_of_eq (hidT_size _ _)
    funs := trivial
    frf := fun b z => nomatch z
    hok := ok
    bare := .of_eq hg }
  refine codeAny_mono (run _ H baseK (baseN _ _ hns) env sq) fun r s' z => ?_
  cases r with
  | error e => exact z.elim
  | ok fl =>
    cases fl with
    | ret u =>
      obtain ⟨v, H', h1, h2, h3, h4, h5, h6⟩ := z
      obtain rfl : v = .bl true := h6
      obtain rfl : u = Value.bool true := h5
      refine ⟨rfl, OldK.of_keep fun b o y => ?_, h1, h2⟩
      cases q : H b with
      | none => exact h3.keep b o y q (fun z => nomatch z) (fun z => nomatch z)
      | some t =>
        obtain ⟨rfl, _, rfl⟩ := only b t q
        have q2 := h3.frzs _ _ _ q
        obtain ⟨g1, _⟩ := h4 _ _ q2
        rw [ha] at y
        cases y
        exact g1
    | next => exact z.elim
    | brk => exact z.elim
    | cont => exact z.elim
end Qb
end PySem
namespace PySem
namespace Qb
open PySem.W PySem.Calls PyProof.Rows L2
/-- a written tuple of texts -/
theorem tup_mk {K : Frag} {mg : Str → Option Value} {h : Heap} {x : Str} {p : Addr} {dd : Option Addr} {its : Array Value} {n : Nat} {sl : Array (Option Value)} {ws : List Str}
    (X : K.In h) (G : h.Ns mainGlobals mg) (a : nsIn K mainGlobals x = some (some (.ref p))) (l : K.lookup p = some ⟨.type "tuple", dd, .seq its n, sl⟩) (z : its.size ≤ 1000) (v : Vals (ws.map V.str) its.toList) :
    ∃ p, mg x = some (.ref p) ∧ ∀ H, SqT K H p (ws.map V.str) :=
  ⟨p, mg_of X G a, fun H => .inr ⟨_, its, n, l, rfl, rfl, Nat.le_trans z (by decide), v⟩⟩
theorem glob_mk {K : Frag} {mg : Str → Option Value} {h : Heap} {x c d : Str} {t : Tok} (X : K.In h) (G : h.Ns mainGlobals mg) (a : nsIn K mainGlobals x = some (some (.str c t))) (e : c = d) : ∃ t, mg x = some (.str d t) := ⟨t, e ▸ mg_of X G a⟩
/-- the law holds, by what the text's top has left -/
theorem law_holds {P : Program} {w : World} {K : Frag} {mg mb : Str → Option Value} {s : Shared} {fa a : Addr} {vs : List Value} {ns : List Int} {f0 f1 f2 f3 f4 f5 f6 f7 f8 f9 f10 f11 f12 f13 f14 f15 f16 f17 f18 f19 f20 f21 f22 f23 f24 f25 f26 f27 f28 f29 f30 f31 f32 f33 f34 f35 f36 : Addr} {d0 d1 d2 d3 d4 d5 d6 d7 d8 d9 d10 d11 d12 d13 d14 d15 d16 d17 d18 d19 d20 d21 d22 d23 d24 d25 d26 d27 d28 d29 d30 d31 d32 d33 d34 d35 d36 : FuncData}
    (KX : K.In s.heap) (hns : s.heap.Ns mainGlobals mg) (hb : s.heap.Ns builtinsNs mb) (hbb : ∀ x : Str, x ≠ "__name__" → mb x = bootBuiltins x) (lim : s.heap.NoLimit) (hg : s.gens = #[])
    (ha : s.heap.get? a = some { cls := .type "list", data := .seq vs.toArray }) (hi : IntsAre vs ns) (hl : ns.length ≤ 63)
    (W : Wrt mg) (B : Blt mg) (TK : KwT K mg) (TN : NpT K mg) (bl : mg "bool" = none)
    (F0 : Fun K "name_length" "name_length" sNL f0 d0) (g0 : mg "name_length" = some (.ref f0))
    (F1 : Fun K "is_name" "is_name" sIN f1 d1) (g1 : mg "is_name" = some (.ref f1))
    (F2 : Fun K "is_bare" "is_bare" sIB f2 d2) (g2 : mg "is_bare" = some (.ref f2))
    (F3 : Fun K "begins_set" "begins_set" sBS f3 d3) (g3 : mg "begins_set" = some (.ref f3))
    (F4 : Fun K "are_pieces" "are_pieces" sAP f4 d4) (g4 : mg "are_pieces" = some (.ref f4))
    (F5 : Fun K "are_wide" "are_wide" sAW f5 d5) (g5 : mg "are_wide" = some (.ref f5))
    (F6 : Fun K "is_full_word" "is_full_word" sFW f6 d6) (g6 : mg "is_full_word" = some (.ref f6))
    (F7 : Fun K "is_piece" "is_piece" sIP f7 d7) (g7 : mg "is_piece" = some (.ref f7))
    (F8 : Fun K "is_dollar" "is_dollar" sDol f8 d8) (g8 : mg "is_dollar" = some (.ref f8))
    (F9 : Fun K "is_deed_on" "is_deed_on" sDO f9 d9) (g9 : mg "is_deed_on" = some (.ref f9))
    (F10 : Fun K "has_neighbours" "has_neighbours" sHN f10 d10) (g10 : mg "has_neighbours" = some (.ref f10))
    (F11 : Fun K "is_command" "is_command" sCmd f11 d11) (g11 : mg "is_command" = some (.ref f11))
    (F12 : Fun K "is_block" "is_block" sBlk f12 d12) (g12 : mg "is_block" = some (.ref f12))
    (F13 : Fun K "is_do" "is_do" sDoo f13 d13) (g13 : mg "is_do" = some (.ref f13))
    (F14 : Fun K "is_first_word" "is_first_word" sFst f14 d14) (g14 : mg "is_first_word" = some (.ref f14))
    (F15 : Fun K "is_key_word" "is_key_word" sKW f15 d15) (g15 : mg "is_key_word" = some (.ref f15))
    (F16 : Fun K "are_words" "are_words" sAWs f16 d16) (g16 : mg "are_words" = some (.ref f16))
    (F17 : Fun K "are_turns" "are_turns" sTu f17 d17) (g17 : mg "are_turns" = some (.ref f17))
    (F18 : Fun K "parts_of" "parts_of" sPts f18 d18) (g18 : mg "parts_of" = some (.ref f18))
    (F19 : Fun K "block_parts" "block_parts" sBP f19 d19) (g19 : mg "block_parts" = some (.ref f19))
    (F20 : Fun K "all_at" "all_at" sAll f20 d20) (g20 : mg "all_at" = some (.ref f20))
    (F21 : Fun K "turn_words" "turn_words" sTW f21 d21) (g21 : mg "turn_words" = some (.ref f21))
    (F22 : Fun K "scripts_in_word" "scripts_in_word" sSW f22 d22) (g22 : mg "scripts_in_word" = some (.ref f22))
    (F23 : Fun K "commands_in_word" "commands_in_word" sCW f23 d23) (g23 : mg "commands_in_word" = some (.ref f23))
    (F24 : Fun K "commands_within" "commands_within" sCIn f24 d24) (g24 : mg "commands_within" = some (.ref f24))
    (F25 : Fun K "is_script" "is_script" sIS f25 d25) (g25 : mg "is_script" = some (.ref f25))
    (F26 : Fun K "first_wrong" "first_wrong" sFWr f26 d26) (g26 : mg "first_wrong" = some (.ref f26))
    (F27 : Fun K "first_wrong_in" "first_wrong_in" sFI f27 d27) (g27 : mg "first_wrong_in" = some (.ref f27))
    (F28 : Fun K "_law_state" "_law_state" sState f28 d28) (g28 : mg "_law_state" = some (.ref f28))
    (F29 : Fun K "_law_draw" "_law_draw" sDraw f29 d29) (g29 : mg "_law_draw" = some (.ref f29))
    (F30 : Fun K "_law_signs" "_law_signs" sSig f30 d30) (g30 : mg "_law_signs" = some (.ref f30))
    (F31 : Fun K "_law_name" "_law_name" sNm f31 d31) (g31 : mg "_law_name" = some (.ref f31))
    (F32 : Fun K "_law_bare" "_law_bare" sBr f32 d32) (g32 : mg "_law_bare" = some (.ref f32))
    (F33 : Fun K "_law_is_name" "_law_is_name" sLN f33 d33) (g33 : mg "_law_is_name" = some (.ref f33))
    (F34 : Fun K "_law_key" "_law_key" sLK f34 d34) (g34 : mg "_law_key" = some (.ref f34))
    (F35 : Fun K "_law_drawn" "_law_drawn" sDr f35 d35) (g35 : mg "_law_drawn" = some (.ref f35))
    (F36 : Fun K "law" "law" sLaw f36 d36) (g36 : mg "law" = some (.ref f36))
    (hfa : mg "law" = some (.ref fa)) : codeAny (model P w) callerA (.call (.ref fa) ⟨[.ref a], []⟩) (fun r s' => r = .ok (.ret (.bool true)) ∧ OldK s.heap s'.heap ∧ s'.os = s.os ∧ AllBare s'.gens) s := by
  have e := hfa.symm.trans g36
  cases e
  have b0 := F0.binds (ps := ["text"]) fun _ _ _ _ _ _ us hl => match us, hl with | [_], _ => rfl
  have b1 := F1.binds (ps := ["text"]) fun _ _ _ _ _ _ us hl => match us, hl with | [_], _ => rfl
  have b2 := F2.binds (ps := ["text"]) fun _ _ _ _ _ _ us hl => match us, hl with | [_], _ => rfl
  have b3 := F3.binds (ps := ["text"]) fun _ _ _ _ _ _ us hl => match us, hl with | [_], _ => rfl
  have b4 := F4.binds (ps := ["pieces"]) fun _ _ _ _ _ _ us hl => match us, hl with | [_], _ => rfl
  have b5 := F5.binds (ps := ["pieces"]) fun _ _ _ _ _ _ us hl => match us, hl with | [_], _ => rfl
  have b6 := F6.binds (ps := ["word"]) fun _ _ _ _ _ _ us hl => match us, hl with | [_], _ => rfl
  have b7 := F7.binds (ps := ["piece"]) fun _ _ _ _ _ _ us hl => match us, hl with | [_], _ => rfl
  have b8 := F8.binds (ps := ["piece"]) fun _ _ _ _ _ _ us hl => match us, hl with | [_], _ => rfl
  have b9 := F9.binds (ps := ["name", "deed"]) fun _ _ _ _ _ _ us hl => match us, hl with | [_, _], _ => rfl
  have b10 := F10.binds (ps := ["pieces", "kind"]) fun _ _ _ _ _ _ us hl => match us, hl with | [_, _], _ => rfl
  have b11 := F11.binds (ps := ["command"]) fun _ _ _ _ _ _ us hl => match us, hl with | [_], _ => rfl
  have b12 := F12.binds (ps := ["command"]) fun _ _ _ _ _ _ us hl => match us, hl with | [_], _ => rfl
  have b13 := F13.binds (ps := ["sets", "words", "turns"]) fun _ _ _ _ _ _ us hl => match us, hl with | [_, _, _], _ => rfl
  have b14 := F14.binds (ps := ["word", "sets"]) fun _ _ _ _ _ _ us hl => match us, hl with | [_, _], _ => rfl
  have b15 := F15.binds (ps := ["word"]) fun _ _ _ _ _ _ us hl => match us, hl with | [_], _ => rfl
  have b16 := F16.binds (ps := ["words"]) fun _ _ _ _ _ _ us hl => match us, hl with | [_], _ => rfl
  have b17 := F17.binds (ps := ["turns"]) fun _ _ _ _ _ _ us hl => match us, hl with | [_], _ => rfl
  have b18 := F18.binds (ps := ["command"]) fun _ _ _ _ _ _ us hl => match us, hl with | [_], _ => rfl
  have b19 := F19.binds (ps := ["command"]) fun _ _ _ _ _ _ us hl => match us, hl with | [_], _ => rfl
  have b20 := F20.binds (ps := ["path", "kind", "parts"]) fun _ _ _ _ _ _ us hl => match us, hl with | [_, _, _], _ => rfl
  have b21 := F21.binds (ps := ["index", "turns"]) fun _ _ _ _ _ _ us hl => match us, hl with | [_, _], _ => rfl
  have b22 := F22.binds (ps := ["pieces"]) fun _ _ _ _ _ _ us hl => match us, hl with | [_], _ => rfl
  have b23 := F23.binds (ps := ["word"]) fun _ _ _ _ _ _ us hl => match us, hl with | [_], _ => rfl
  have b24 := F24.binds (ps := ["command"]) fun _ _ _ _ _ _ us hl => match us, hl with | [_], _ => rfl
  have b25 := F25.binds (ps := ["tree"]) fun _ _ _ _ _ _ us hl => match us, hl with | [_], _ => rfl
  have b26 := F26.binds (ps := ["script"]) fun _ _ _ _ _ _ us hl => match us, hl with | [_], _ => rfl
  have b27 := F27.binds (ps := ["commands"]) fun _ _ _ _ _ _ us hl => match us, hl with | [_], _ => rfl
  have b28 := F28.binds (ps := ["_law_script"]) fun _ _ _ _ _ _ us hl => match us, hl with | [_], _ => rfl
  have b29 := F29.binds (ps := ["_law_state_here", "_law_many"]) fun _ _ _ _ _ _ us hl => match us, hl with | [_, _], _ => rfl
  have b30 := F30.binds (ps := ["_law_state_here", "_law_some", "_law_least", "_law_most"]) fun _ _ _ _ _ _ us hl => match us, hl with | [_, _, _, _], _ => rfl
  have b31 := F31.binds (ps := ["_law_state_here"]) fun _ _ _ _ _ _ us hl => match us, hl with | [_], _ => rfl
  have b32 := F32.binds (ps := ["_law_state_here"]) fun _ _ _ _ _ _ us hl => match us, hl with | [_], _ => rfl
  have b33 := F33.binds (ps := ["_law_told"]) fun _ _ _ _ _ _ us hl => match us, hl with | [_], _ => rfl
  have b34 := F34.binds (ps := ["_law_told"]) fun _ _ _ _ _ _ us hl => match us, hl with | [_], _ => rfl
  have b35 := F35.binds (ps := ["_law_state_here"]) fun _ _ _ _ _ _ us hl => match us, hl with | [_], _ => rfl
  have kb : KBinds K d25 ["tree"] ["tree"] (fun us ws => us ++ ws) (fun vs zs => vs ++ zs) := by
    obtain ⟨oc, od, kV, doc, pm, an, cdv, ct, osl, rfl, lk, hcd⟩ := F25.ex
    refine ⟨fun s us ws _ hl => ?_, fun r rz => r.append rz⟩
    match us, ws, hl with
    | [], [u], _ => exact .of_eq rfl
    | [u], [], _ => exact .of_eq rfl
  have bL : ∀ (s : Shared) (u : Value), BindsTo s d36 ⟨[u], []⟩ ((["_law_script"] : List Str).zip [u]) := by
    obtain ⟨oc, od, kV, doc, pm, an, cdv, ct, osl, rfl, lk, hcd⟩ := F36.ex
    exact fun s u => .of_eq rfl
  refine law_at KX hns hb hbb lim hg ha hi (Nat.le_trans hl (by decide)) fun base H hK hN env sq => ?_
  have oNL : FnOk P w K mg base CX0 1 f0 d0 ["text"] (spTxt fun x => .int (nameLen (cs x))) := ok_nl F0 W
  have oIN : FnOk P w K mg base CX0 2 f1 d1 ["text"] (spTxt fun x => .bl (isNameB (cs x))) := ok_in F1 W F0 g0 b0
  have oIB : FnOk P w K mg base CX0 1 f2 d2 ["text"] (spTxt fun x => .bl (isBareB (cs x))) := ok_ib F2 W
  have oBS : FnOk P w K mg base CX0 2 f3 d3 ["text"] (spTxt fun x => .bl (beginsB (cs x))) := ok_bs F3 W F0 g0 b0
  have oDol : FnOk P w K mg base CX0 3 f8 d8 ["piece"] (spNam K) := ok_dol F8 F1 g1 b1 oIN F9 g9 b9
  have oAW : FnOk P w K mg base CX0 2 f5 d5 ["pieces"] (spNil K) := ok_aw F5 W F10 g10 b10
  have oIP : FnOk P w K mg base CX0 4 f7 d7 ["piece"] (spPc K) := ok_ip F7 F2 g2 b2 oIB F5 g5 b5 oAW F8 g8 b8 oDol
  have oAP : FnOk P w K mg base CX0 5 f4 d4 ["pieces"] (spW K piecesB) := ok_ap F4 W F7 g7 b7 oIP F10 g10 b10
  have oFW : FnOk P w K mg base CX0 6 f6 d6 ["word"] (spW K fullB) := ok_fw F6 F4 g4 b4 oAP
  have oKW : FnOk P w K mg base CX0 1 f15 d15 ["word"] (spW K keyB) := ok_kw F15 W TK
  have oFst : FnOk P w K mg base CX0 3 f14 d14 ["word", "sets"] (spFw K) := ok_fst F14 F15 g15 b15 oKW F3 g3 b3 oBS
  have oAWs : FnOk P w K mg base CX0 7 f16 d16 ["words"] (spWs K) := ok_aws F16 W F6 g6 b6 oFW
  have oTu : FnOk P w K mg base CX0 1 f17 d17 ["turns"] (spNil K) := ok_tu F17 W
  have oDo : FnOk P w K mg base CX0 8 f13 d13 ["sets", "words", "turns"] (spDo K) := ok_doo F13 W F1 g1 b1 oIN F4 g4 b4 oAP F16 g16 b16 oAWs F17 g17 b17 oTu F14 g14 b14 oFst
  have oBl : FnOk P w K mg base CX0 2 f12 d12 ["command"] (spGr K) := ok_blk F12 F17 g17 b17 oTu
  have oCm : FnOk P w K mg base CX0 9 f11 d11 ["command"] (spCm K) := ok_cmd F11 W TN F13 g13 b13 oDo F12 g12 b12 oBl
  have oAll : FnOk P w K mg base CX0 1 f20 d20 ["path", "kind", "parts"] (spAll K) := ok_all F20 W
  have oTW : FnOk P w K mg base CX0 1 f21 d21 ["index", "turns"] (spTW K) := ok_tw F21 W
  have oBP : FnOk P w K mg base CX0 2 f19 d19 ["command"] (spBP K) := ok_bp F19 F20 g20 b20 oAll F21 g21 b21 oTW
  have oPts : FnOk P w K mg base CX0 3 f18 d18 ["command"] (spPts K) := ok_pts F18 W F20 g20 b20 oAll F21 g21 b21 oTW F19 g19 b19 oBP
  have oS1 : FnOk P w K mg base CX0 2 f22 d22 ["pieces"] (spS1 K) := ok_s1 F22 W g22 b22
  have oCW : FnOk P w K mg base CX0 3 f23 d23 ["word"] (spS1 K) := ok_cw F23 F22 g22 b22 oS1
  have oCI : FnOk P w K mg base CX0 4 f24 d24 ["command"] (spCI K) := ok_ci F24 F18 g18 b18 oPts F23 g23 b23 oCW
  have oFI : FnOk P w K mg base CX0 10 f27 d27 ["commands"] (spFI K) := ok_fi F27 W F11 g11 b11 oCm F24 g24 b24 oCI
  have oFWr : FnOk P w K mg base CX0 11 f26 d26 ["script"] (spTr K fun b u => decide (u = V.non) = b) := ok_fwr F26 W F27 g27 b27 oFI
  have oIS : FnOk P w K mg base CX0 12 f25 d25 ["tree"] (spTr K fun b u => u = .bl b) := ok_is F25 F26 g26 b26 oFWr
  have oNm : FnOk P w K mg base CX0 3 f31 d31 ["_law_state_here"] spNm := ok_nm F31 B F29 g29 b29 F30 g30 b30
  have oBr : FnOk P w K mg base CX0 3 f32 d32 ["_law_state_here"] spBr := ok_br F32 B F29 g29 b29 F30 g30 b30
  have oDr : FnOk P w K mg base CX0 4 f35 d35 ["_law_state_here"] spDr := ok_dr F35 B F29 g29 b29 F31 g31 b31 oNm F32 g32 b32 oBr
  have Z : LawG P w K mg base f28 f29 f31 f35 f34 f33 f25 d28 d29 d31 d35 d34 d33 d25 := {
    gS := g28
    kS := F28.kp
    bS := b28
    GS := ok_state F28 B
    gD := g29
    kD := F29.kp
    bD := b29
    GD := ok_draw F29 B
    gN := g31
    kN := F31.kp
    bN := b31
    GN := oNm
    gR := g35
    kR := F35.kp
    bR := b35
    GR := oDr
    gK := g34
    kK := F34.kp
    bK := b34
    GK := ok_lk F34
    gL := g33
    kL := F33.kp
    bL := b33
    GL := ok_ln F33 W
    gI := g25
    kI := F25.kp
    bI := kb
    GI := oIS
    bool := bl }
  have hr : Room 13 callerA := ⟨rfl, by decide, by decide⟩
  exact run_at (us := [.ref a]) (vs := [.ref a]) F36 scLw hr env (bL s (.ref a)) (.cons rfl .nil) rfl fun cdv => law_body W B Z cdv callerA [] s H [.ref a] (fun v _ => v = V.bl true) E0 (hr.deeper _) ⟨a, ns, rfl, sq, hl, fun _ => rfl⟩
end Qb
end PySem
open PySem PySem.W PyProof.Rows
set_option maxRecDepth 100000 in
set_option maxHeartbeats 0 in
theorem PySem.Challenge.cw_quotedback_k02_first_words_holds : PySem.Challenge.rw_quotedback_k02_first_words.Holds := by
  w_on; o_law; k_head; (case hw => w_witness2)
  k_fill
  refine Att.attach_call (l := PySem.Challenge.rw_quotedback_k02_first_words) (n := 63) rfl rfl ?F
  case F =>
    intro w s₀ s₁ mg mb fa o pm cd doc a vs ns G Y ho hd hcd hmg hobj hints hlen hg
    have KX := kIn_of Y
    refine' PySem.Qb.law_holds KX G.T.g G.T.b G.T.builtins G.T.nolimit hg hobj hints hlen
      ⟨PySem.Qb.glob_mk KX G.T.g ?s0 ?e0, PySem.Qb.glob_mk KX G.T.g ?s1 ?e1, PySem.Qb.glob_mk KX G.T.g ?s2 ?e2, mg_none_of KX G.T.g ?y0, mg_none_of KX G.T.g ?y1, mg_none_of KX G.T.g ?y2, mg_none_of KX G.T.g ?y3, mg_none_of KX G.T.g ?y4, mg_none_of KX G.T.g ?y5⟩
      ⟨mg_none_of KX G.T.g ?z0, mg_none_of KX G.T.g ?z1, mg_none_of KX G.T.g ?z2, mg_none_of KX G.T.g ?z3, mg_none_of KX G.T.g ?z4⟩
      ⟨PySem.Qb.tup_mk KX G.T.g ?ka ?kl ?kz ?kv⟩
      ⟨PySem.Qb.tup_mk KX G.T.g ?na ?nl ?nz ?nv⟩
      (mg_none_of KX G.T.g ?z5)
      (L2.fun_mk ?lf0 ?cf0 ?kf0) (mg_of KX G.T.g ?af0)
      (L2.fun_mk ?lf1 ?cf1 ?kf1) (mg_of KX G.T.g ?af1)
      (L2.fun_mk ?lf2 ?cf2 ?kf2) (mg_of KX G.T.g ?af2)
      (L2.fun_mk ?lf3 ?cf3 ?kf3) (mg_of KX G.T.g ?af3)
      (L2.fun_mk ?lf4 ?cf4 ?kf4) (mg_of KX G.T.g ?af4)
      (L2.fun_mk ?lf5 ?cf5 ?kf5) (mg_of KX G.T.g ?af5)
      (L2.fun_mk ?lf6 ?cf6 ?kf6) (mg_of KX G.T.g ?af6)
      (L2.fun_mk ?lf7 ?cf7 ?kf7) (mg_of KX G.T.g ?af7)
      (L2.fun_mk ?lf8 ?cf8 ?kf8) (mg_of KX G.T.g ?af8)
      (L2.fun_mk ?lf9 ?cf9 ?kf9) (mg_of KX G.T.g ?af9)
      (L2.fun_mk ?lf10 ?cf10 ?kf10) (mg_of KX G.T.g ?af10)
      (L2.fun_mk ?lf11 ?cf11 ?kf11) (mg_of KX G.T.g ?af11)
      (L2.fun_mk ?lf12 ?cf12 ?kf12) (mg_of KX G.T.g ?af12)
      (L2.fun_mk ?lf13 ?cf13 ?kf13) (mg_of KX G.T.g ?af13)
      (L2.fun_mk ?lf14 ?cf14 ?kf14) (mg_of KX G.T.g ?af14)
      (L2.fun_mk ?lf15 ?cf15 ?kf15) (mg_of KX G.T.g ?af15)
      (L2.fun_mk ?lf16 ?cf16 ?kf16) (mg_of KX G.T.g ?af16)
      (L2.fun_mk ?lf17 ?cf17 ?kf17) (mg_of KX G.T.g ?af17)
      (L2.fun_mk ?lf18 ?cf18 ?kf18) (mg_of KX G.T.g ?af18)
      (L2.fun_mk ?lf19 ?cf19 ?kf19) (mg_of KX G.T.g ?af19)
      (L2.fun_mk ?lf20 ?cf20 ?kf20) (mg_of KX G.T.g ?af20)
      (L2.fun_mk ?lf21 ?cf21 ?kf21) (mg_of KX G.T.g ?af21)
      (L2.fun_mk ?lf22 ?cf22 ?kf22) (mg_of KX G.T.g ?af22)
      (L2.fun_mk ?lf23 ?cf23 ?kf23) (mg_of KX G.T.g ?af23)
      (L2.fun_mk ?lf24 ?cf24 ?kf24) (mg_of KX G.T.g ?af24)
      (L2.fun_mk ?lf25 ?cf25 ?kf25) (mg_of KX G.T.g ?af25)
      (L2.fun_mk ?lf26 ?cf26 ?kf26) (mg_of KX G.T.g ?af26)
      (L2.fun_mk ?lf27 ?cf27 ?kf27) (mg_of KX G.T.g ?af27)
      (L2.fun_mk ?lf28 ?cf28 ?kf28) (mg_of KX G.T.g ?af28)
      (L2.fun_mk ?lf29 ?cf29 ?kf29) (mg_of KX G.T.g ?af29)
      (L2.fun_mk ?lf30 ?cf30 ?kf30) (mg_of KX G.T.g ?af30)
      (L2.fun_mk ?lf31 ?cf31 ?kf31) (mg_of KX G.T.g ?af31)
      (L2.fun_mk ?lf32 ?cf32 ?kf32) (mg_of KX G.T.g ?af32)
      (L2.fun_mk ?lf33 ?cf33 ?kf33) (mg_of KX G.T.g ?af33)
      (L2.fun_mk ?lf34 ?cf34 ?kf34) (mg_of KX G.T.g ?af34)
      (L2.fun_mk ?lf35 ?cf35 ?kf35) (mg_of KX G.T.g ?af35)
      (L2.fun_mk ?lf36 ?cf36 ?kf36) (mg_of KX G.T.g ?af36) hmg
    (case s0 => k_is)
    (case s1 => k_is)
    (case s2 => k_is)
    (case y0 => k_is)
    (case y1 => k_is)
    (case y2 => k_is)
    (case y3 => k_is)
    (case y4 => k_is)
    (case y5 => k_is)
    (case z0 => k_is)
    (case z1 => k_is)
    (case z2 => k_is)
    (case z3 => k_is)
    (case z4 => k_is)
    (case z5 => k_is)
    (case ka => k_is)
    (case kl => k_is)
    (case na => k_is)
    (case nl => k_is)
    (case e0 => first | rfl | decide +kernel)
    (case e1 => first | rfl | decide +kernel)
    (case e2 => first | rfl | decide +kernel)
    (case kz => decide +kernel)
    (case kv => exact .cons ⟨_, rfl⟩ (.cons ⟨_, rfl⟩ (.cons ⟨_, rfl⟩ (.cons ⟨_, rfl⟩ (.cons ⟨_, rfl⟩ (.cons ⟨_, rfl⟩ (.cons ⟨_, rfl⟩ (.cons ⟨_, rfl⟩ (.cons ⟨_, rfl⟩ (.cons ⟨_, rfl⟩ (.cons ⟨_, rfl⟩ (.cons ⟨_, rfl⟩ (.cons ⟨_, rfl⟩ (.cons ⟨_, rfl⟩ (.cons ⟨_, rfl⟩ (.cons ⟨_, rfl⟩ .nil))))))))))))))))
    (case nz => decide +kernel)
    (case nv => exact .cons ⟨_, rfl⟩ (.cons ⟨_, rfl⟩ (.cons ⟨_, rfl⟩ (.cons ⟨_, rfl⟩ .nil))))
    (case af0 => k_is)
    (case lf0 => k_is)
    (case cf0 => k_is)
    (case kf0 => k_is)
    (case af1 => k_is)
    (case lf1 => k_is)
    (case cf1 => k_is)
    (case kf1 => k_is)
    (case af2 => k_is)
    (case lf2 => k_is)
    (case cf2 => k_is)
    (case kf2 => k_is)
    (case af3 => k_is)
    (case lf3 => k_is)
    (case cf3 => k_is)
    (case kf3 => k_is)
    (case af4 => k_is)
    (case lf4 => k_is)
    (case cf4 => k_is)
    (case kf4 => k_is)
    (case af5 => k_is)
    (case lf5 => k_is)
    (case cf5 => k_is)
    (case kf5 => k_is)
    (case af6 => k_is)
    (case lf6 => k_is)
    (case cf6 => k_is)
    (case kf6 => k_is)
    (case af7 => k_is)
    (case lf7 => k_is)
    (case cf7 => k_is)
    (case kf7 => k_is)
    (case af8 => k_is)
    (case lf8 => k_is)
    (case cf8 => k_is)
    (case kf8 => k_is)
    (case af9 => k_is)
    (case lf9 => k_is)
    (case cf9 => k_is)
    (case kf9 => k_is)
    (case af10 => k_is)
    (case lf10 => k_is)
    (case cf10 => k_is)
    (case kf10 => k_is)
    (case af11 => k_is)
    (case lf11 => k_is)
    (case cf11 => k_is)
    (case kf11 => k_is)
    (case af12 => k_is)
    (case lf12 => k_is)
    (case cf12 => k_is)
    (case kf12 => k_is)
    (case af13 => k_is)
    (case lf13 => k_is)
    (case cf13 => k_is)
    (case kf13 => k_is)
    (case af14 => k_is)
    (case lf14 => k_is)
    (case cf14 => k_is)
    (case kf14 => k_is)
    (case af15 => k_is)
    (case lf15 => k_is)
    (case cf15 => k_is)
    (case kf15 => k_is)
    (case af16 => k_is)
    (case lf16 => k_is)
    (case cf16 => k_is)
    (case kf16 => k_is)
    (case af17 => k_is)
    (case lf17 => k_is)
    (case cf17 => k_is)
    (case kf17 => k_is)
    (case af18 => k_is)
    (case lf18 => k_is)
    (case cf18 => k_is)
    (case kf18 => k_is)
    (case af19 => k_is)
    (case lf19 => k_is)
    (case cf19 => k_is)
    (case kf19 => k_is)
    (case af20 => k_is)
    (case lf20 => k_is)
    (case cf20 => k_is)
    (case kf20 => k_is)
    (case af21 => k_is)
    (case lf21 => k_is)
    (case cf21 => k_is)
    (case kf21 => k_is)
    (case af22 => k_is)
    (case lf22 => k_is)
    (case cf22 => k_is)
    (case kf22 => k_is)
    (case af23 => k_is)
    (case lf23 => k_is)
    (case cf23 => k_is)
    (case kf23 => k_is)
    (case af24 => k_is)
    (case lf24 => k_is)
    (case cf24 => k_is)
    (case kf24 => k_is)
    (case af25 => k_is)
    (case lf25 => k_is)
    (case cf25 => k_is)
    (case kf25 => k_is)
    (case af26 => k_is)
    (case lf26 => k_is)
    (case cf26 => k_is)
    (case kf26 => k_is)
    (case af27 => k_is)
    (case lf27 => k_is)
    (case cf27 => k_is)
    (case kf27 => k_is)
    (case af28 => k_is)
    (case lf28 => k_is)
    (case cf28 => k_is)
    (case kf28 => k_is)
    (case af29 => k_is)
    (case lf29 => k_is)
    (case cf29 => k_is)
    (case kf29 => k_is)
    (case af30 => k_is)
    (case lf30 => k_is)
    (case cf30 => k_is)
    (case kf30 => k_is)
    (case af31 => k_is)
    (case lf31 => k_is)
    (case cf31 => k_is)
    (case kf31 => k_is)
    (case af32 => k_is)
    (case lf32 => k_is)
    (case cf32 => k_is)
    (case kf32 => k_is)
    (case af33 => k_is)
    (case lf33 => k_is)
    (case cf33 => k_is)
    (case kf33 => k_is)
    (case af34 => k_is)
    (case lf34 => k_is)
    (case cf34 => k_is)
    (case kf34 => k_is)
    (case af35 => k_is)
    (case lf35 => k_is)
    (case cf35 => k_is)
    (case kf35 => k_is)
    (case af36 => k_is)
    (case lf36 => k_is)
    (case cf36 => k_is)
    (case kf36 => k_is)
