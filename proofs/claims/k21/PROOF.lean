import PyProof.Rows.All
import Wide.All
import OpenK.AllK
import Wide.FinOn
import PyProof.EqAt
import PyProof.EqKinds
import PyProof.TupleCall
import PyProof.RulesMatchSeq
import PyProof.Rows.MatchSeqLen
import HandS.ForMost
import HandS.Walk
import HandS.Iter
import HandS.Text
import HandS.IsInst
import PyProof.RulesMatchSingle
import HandS.Wide
import HandS.More
import HandS.WideBits
import HandS.TupLe
import HandS.Replace
import HandS.StrMore
import PySem.Challenge.RW_quotedback_k21_patterns_of_signs
set_option Elab.async false
set_option linter.all false
set_option maxRecDepth 100000
set_option maxHeartbeats 8000000
namespace PySem
namespace Qb
open PySem.W PySem.Calls PyProof.Rows L2
/-! # match over tuples, texts and names -/
/-- what a pattern asks: the values of its names in their order, or that it does not fit -/
abbrev PatR := V → Hp → (Option (List V) → Prop) → Prop
def PatE (X : Cx) (pins : List (Addr × Obj)) (σ : L2.St) (H : Hp) (ns : List Str) (Q : Option (List V) → Prop) (res : Option (List (Str × Value))) (s : Shared) : Prop :=
  Inv X pins σ H s ∧ match res with
    | none => Q none
    | some bs => bs.map (·.1) = ns ∧ ∃ vs, Vals vs (bs.map (·.2)) ∧ Q (some vs)
structure PPt (X : Cx) (pat : Pattern) (ns : List Str) (r : PatR) : Prop where
  run : ∀ (pins : List (Addr × Obj)) (s : Shared) (σ : L2.St) (H : Hp) (v : V) (u : Value) (Q : Option (List V) → Prop), Inv X pins σ H s → RelV v u → r v H Q →
    wpAny (model X.prog X.w) X.A (matchPattern pat X.env u) (fun res s1 => PatE X pins σ H ns Q res s1) X.xe s
def rEach : List PatR → List V → Hp → (Option (List V) → Prop) → Prop
  | r :: rs, x :: xs, H, Q => r x H fun o => match o with
    | none => Q none
    | some vs => rEach rs xs H fun o' => match o' with
      | none => Q none
      | some more => Q (some (vs ++ more))
  | _, _, _, Q => Q (some [])
structure PPs (X : Cx) (pats : List Pattern) (ns : List Str) (rs : List PatR) : Prop where
  len : rs.length = pats.length
  run : ∀ (pins : List (Addr × Obj)) (s : Shared) (σ : L2.St) (H : Hp) (vs : List V) (us : List Value) (Q : Option (List V) → Prop), Inv X pins σ H s → Vals vs us → vs.length = pats.length → rEach rs vs H Q →
    wpAny (model X.prog X.w) X.A (matchEach pats X.env us) (fun res s1 => PatE X pins σ H ns Q res s1) X.xe s
theorem ext_keeps {h h2 : Heap} (ex : Heap.ExtBut h.objs.size h h2) (b : Addr) (o : Obj) (z : h.get? b = some o) : h2.get? b = some o := by
  exact ex b o (Nat.ne_of_lt (Heap.lt_size z)) z
section
variable {X : Cx} {pos pos' : Pos}
def rLit (c : Str) : PatR := fun v _ Q => ∃ y, v = .str y ∧ Q (if y = c then some [] else none)
theorem pp_lit {c : Str} {j : Nat} : PPt X (.MatchValue (.Constant (.str c) j pos) pos') [] (rLit c) := by
  refine ⟨fun pins s σ H v u Q I r h => wpAny_matchPattern_Value ?_⟩
  obtain ⟨y, rfl, q⟩ := h
  refine thn (pe_str.run pins s σ H (fun z H1 => z = .str c ∧ H1 = H) I ⟨rfl, rfl⟩) fun x s1 ⟨z, H1, I1, rz, ez, eH⟩ => ?_
  subst ez
  subst eH
  refine thn (op_eq pins s1 σ H1 (.str y) (.str c) u x (fun w H2 => w = .bl (decide (V.str y = V.str c)) ∧ H2 = H1) I1 r rz ⟨rfl, rfl, rfl⟩) fun b s2 ⟨w, H2, I2, rw2, ew, eH⟩ => ?_
  subst ew
  subst eH
  obtain rfl : b = Value.bool (decide (V.str y = V.str c)) := rw2
  show wpAny _ _ (truthy (.bool _)) _ _ _
  refine wpAny_pure ?_
  by_cases e : y = c
  · rw [if_pos e] at q
    rw [if_pos (by simpa using e)]
    exact ⟨I2, rfl, [], .nil, q⟩
  · rw [if_neg e] at q
    rw [if_neg (by simpa using e)]
    exact ⟨I2, q⟩
def rCap : PatR := fun v _ Q => Q (some [v])
theorem pp_cap {n : Str} : PPt X (.MatchAs none (some n) pos) [n] rCap :=
  ⟨fun pins s σ H v u Q I r h => wpAny_matchPattern_Capture ⟨I, rfl, [v], .cons r .nil, h⟩⟩
def rAny1 : PatR := fun _ _ Q => Q (some [])
theorem pp_any : PPt X (.MatchAs none none pos) [] rAny1 :=
  ⟨fun pins s σ H v u Q I r h => wpAny_matchPattern_Capture ⟨I, rfl, [], .nil, h⟩⟩
theorem pps_nil : PPs X [] [] [] :=
  ⟨rfl, fun pins s σ H vs us Q I r hl h => by
    cases r with
    | nil => exact wpAny_matchEach_nil ⟨I, rfl, [], .nil, h⟩
    | cons _ _ => cases hl⟩
theorem pps_cons {p : Pattern} {ps : List Pattern} {ns ms : List Str} {r : PatR} {rs : List PatR} (h1 : PPt X p ns r) (h2 : PPs X ps ms rs) (hp : p.isStar = false := by rfl) : PPs X (p :: ps) (ns ++ ms) (r :: rs) := by
  refine ⟨congrArg Nat.succ h2.len, fun pins s σ H vs us Q I rv hl h => ?_⟩
  cases rv with
  | nil => cases hl
  | @cons x u xs us rx rt =>
    refine wpAny_matchEach_cons (thn (h1.run pins s σ H x u _ I rx h) fun res s1 ⟨I1, z⟩ => ?_) hp
    cases res with
    | none => exact ⟨I1, z⟩
    | some bs =>
      obtain ⟨e1, vs1, r1, q1⟩ := z
      refine thn (h2.run pins s1 σ H xs us _ I1 rt (Nat.succ.inj hl) q1) fun res2 s2 ⟨I2, z2⟩ => ?_
      cases res2 with
      | none => exact ⟨I2, z2⟩
      | some more =>
        obtain ⟨e2, vs2, r2, q2⟩ := z2
        exact ⟨I2, by rw [List.map_append, e1, e2], vs1 ++ vs2, by rw [List.map_append]; exact r1.append r2, q2⟩
def rSeq (K : Frag) (n : Nat) (rs : List PatR) : PatR := fun v H Q => ∃ a xs, v = .ref a ∧ SqT K H a xs ∧ (xs.length ≠ n → Q none) ∧ (xs.length = n → rEach rs xs H Q)
theorem pp_seq {ps : List Pattern} {ns : List Str} {rs : List PatR} {n : Nat} (hc : X.calm = true) (h : PPs X ps ns rs) (hn : ps.length = n := by rfl) (hstar : ps.findIdx? (·.isStar) = none := by rfl)
    (hwild : (ps.all fun p => p.isWildcard || (p.isStar && p.names.isEmpty)) = false := by rfl) : PPt X (.MatchSequence ps pos) ns (rSeq X.K n rs) := by
  refine ⟨fun pins s σ H v u Q I r h' => ?_⟩
  obtain ⟨a, xs, rfl, sq, qn, qy⟩ := h'
  obtain rfl : u = Value.ref a := r
  obtain ⟨its, rv, ht, hz⟩ := I.tuple sq
  have hfit : ((its.toArray.size : Nat) : Int) < 2 ^ 63 := by
    have e := rv.length
    rw [List.size_toArray, ← e]
    rw [sizeLine_eq] at hz
    omega
  have e := rv.length
  by_cases c : xs.length = n
  · refine matchSeq_tuple_hit ht hfit (by rw [List.size_toArray, ← e, c, hn]) ?_ hstar hwild
    have sz : ps.length = its.toArray.size := by rw [List.size_toArray, ← e, c, hn]
    rw [sz]
    refine unpackItems_tuple (I.ok.hd hc) ht fun h2 ex => ?_
    have J : Inv X pins σ H { s with heap := h2, toks := s.toks + 1 + 1 } := I.kept (t' := s.toks + 1 + 1) fun b o z => ext_keeps ex b o z
    refine h.run pins _ σ H xs _ Q J (by simpa using rv) (by rw [c, hn]) (qy c)
  · exact matchSeq_tuple_miss ht hfit (by rw [List.size_toArray, ← e, hn]; exact c) ⟨I.tok _, qn c⟩ hstar hwild
/-- one of some patterns without names -/
def rOr : List PatR → PatR
  | [] => fun _ _ Q => Q none
  | r :: rs => fun v H Q => r v H fun o => match o with
    | some vs => Q (some vs)
    | none => rOr rs v H Q
structure PFirst (X : Cx) (pats : List Pattern) (rs : List PatR) : Prop where
  run : ∀ (pins : List (Addr × Obj)) (s : Shared) (σ : L2.St) (H : Hp) (v : V) (u : Value) (Q : Option (List V) → Prop), Inv X pins σ H s → RelV v u → rOr rs v H Q →
    wpAny (model X.prog X.w) X.A (matchFirst pats X.env u) (fun res s1 => PatE X pins σ H [] Q res s1) X.xe s
theorem pf_nil : PFirst X [] [] := ⟨fun pins s σ H v u Q I r h => wpAny_matchFirst_nil ⟨I, h⟩⟩
theorem pf_cons {p : Pattern} {ps : List Pattern} {r : PatR} {rs : List PatR} (h1 : PPt X p [] r) (h2 : PFirst X ps rs) : PFirst X (p :: ps) (r :: rs) := by
  refine ⟨fun pins s σ H v u Q I rv h => wpAny_matchFirst_cons (thn (h1.run pins s σ H v u _ I rv h) fun res s1 ⟨I1, z⟩ => ?_)⟩
  cases res with
  | none => exact h2.run pins s1 σ H v u Q I1 rv z
  | some bs => exact ⟨I1, z⟩
theorem pp_or {ps : List Pattern} {rs : List PatR} (h : PFirst X ps rs) (hno : namesOfAll (ps.take 1) = [] := by rfl) : PPt X (.MatchOr ps pos) [] (rOr rs) := by
  refine ⟨fun pins s σ H v u Q I r h' => wpAny_matchPattern_Or (thn (h.run pins s σ H v u Q I r h') fun res s1 ⟨I1, z⟩ => ?_)⟩
  cases res with
  | none => exact ⟨I1, z⟩
  | some bs =>
    obtain ⟨e, vs, rv, q⟩ := z
    have e0 : bs = [] := List.map_eq_nil_iff.mp e
    subst e0
    cases rv
    rw [hno]
    exact ⟨I1, rfl, [], .nil, q⟩
/-- names stored in their slots, from the left -/
def setAll : L2.St → List Nat → List V → L2.St
  | σ, i :: is, v :: vs => setAll (σ.set i (some v)) is vs
  | σ, _, _ => σ
def SlotsOk (X : Cx) (ns : List Str) (is : List Nat) : Prop := Paired (fun n i => X.N[i]? = some n ∧ L2.Loc X.env.scope n ∧ (X.fn n = true ∨ X.env.scope.names.lookup n = some .local)) ns is
theorem store_all (hN : X.N.Nodup) {pins : List (Addr × Obj)} {H : Hp} {Q : Unit → Shared → Prop} : ∀ {ns : List Str} {is : List Nat} {bs : List (Str × Value)} {vs : List V} {σ : L2.St} {s : Shared}, SlotsOk X ns is → bs.map (·.1) = ns → Vals vs (bs.map (·.2)) → Inv X pins σ H s →
    (∀ s', Inv X pins (setAll σ is vs) H s' → Q () s') → wpAny (model X.prog X.w) X.A (assignInOrder (bs.map fun (n, _) => bindName X.env n) (bs.map (·.2))) Q X.xe s
  | _, _, [], _, _, _, ok, e, rv, I, q => by
    subst e
    cases rv
    cases ok
    exact wpAny_assignInOrder_none (q _ I)
  | _, _, (n, u) :: bs, _, _, _, ok, e, rv, I, q => by
    subst e
    cases rv with
    | cons r1 r2 =>
      cases ok with
      | cons o1 o2 =>
        refine wpAny_assignInOrder_more (wpAny_bindName (store_ok I hN o1.1 o1.2.1 r1 (fun s' I' => store_all hN o2 rfl r2 I' q) o1.2.2))
def tCases : List (List Nat × PatR × TS) → V → TS
  | [], _ => fun D σ H => D.nx σ H
  | (is, r, t) :: rest, v => fun D σ H => r v H fun o => match o with
    | none => tCases rest v D σ H
    | some vs => t D (setAll σ is vs) H
structure PCs (X : Cx) (cases : List MatchCase) (cs : List (List Nat × PatR × TS)) : Prop where
  run : ∀ (pins : List (Addr × Obj)) (s : Shared) (σ : L2.St) (H : Hp) (D : Ends) (v : V) (u : Value) (first : Bool), Inv X pins σ H s → RelV v u → tCases cs v D σ H →
    wpAny (model X.prog X.w) X.A (matchCases cases X.env u first) (SP X pins D) X.xe s
theorem pcs_nil : PCs X [] [] := ⟨fun pins s σ H D v u first I r h => wpAny_matchCases_nil ⟨σ, H, I, h⟩⟩
theorem pcs_cons {p : Pattern} {body : List Stmt} {cases : List MatchCase} {ns : List Str} {is : List Nat} {r : PatR} {t : TS} {cs : List (List Nat × PatR × TS)} (hN : X.N.Nodup) (h1 : PPt X p ns r) (hs : SlotsOk X ns is) (hb : PSs X body t) (h2 : PCs X cases cs) :
    PCs X (⟨p, none, body⟩ :: cases) ((is, r, t) :: cs) := by
  refine ⟨fun pins s σ H D v u first I rv h => wpAny_matchCases_cons (thn (h1.run pins s σ H v u _ I rv h) fun res s1 ⟨I1, z⟩ => ?_)⟩
  cases res with
  | none => exact h2.run pins s1 σ H D v u false I1 rv z
  | some bs =>
    obtain ⟨e, vs, r2, q⟩ := z
    exact store_all hN hs e r2 I1 fun s2 I2 => hb.run pins s2 _ H D I2 q
def tMatch (te : TE) (cs : List (List Nat × PatR × TS)) : TS := fun D σ H => te σ H fun v H1 => tCases cs v D σ H1
theorem ps_match {e : Expr} {cases : List MatchCase} {te : TE} {cs : List (List Nat × PatR × TS)} (he : PE X e te) (hc : PCs X cases cs) : PS X (.Match e cases pos) (tMatch te cs) :=
  ⟨fun pins s σ H D I h => wpAny_Match (thn (he.run pins s σ H _ I h) fun u s1 ⟨v, H1, I1, rv, q⟩ => hc.run pins s1 σ H1 D v u true I1 rv q)⟩
end
/-! # heaps -/
theorem same_upd {H : Hp} {a : Addr} {o : HO} (h : H a = none) : Same H (upd H a o) := fun b u e => by
  rw [upd_ne (ne_of_none e h)]
  exact e
theorem same_upd2 {H H1 : Hp} {a : Addr} {o : HO} (s : Same H H1) (h : H a = none) : Same H (upd H1 a o) := fun b u e => by
  rw [upd_ne (ne_of_none e h)]
  exact s b u e
theorem take_snoc {α : Type} {l : List α} {i : Nat} {x : α} (h : l[i]? = some x) : l.take (i + 1) = l.take i ++ [x] := by
  rw [List.take_succ, h]
  rfl
theorem if_no {c : Bool} {A B : Prop} (h : c = false) (b : B) : if c = true then A else B := by
  rw [h, if_neg Bool.false_ne_true]
  exact b
theorem if_yes {c : Bool} {A B : Prop} (h : c = true) (a : A) : if c = true then A else B := by
  rw [if_pos h]
  exact a
theorem if_by {c : Bool} {A B : Prop} (a : c = true → A) (b : c = false → B) : if c = true then A else B := by
  cases c with
  | true => exact a rfl
  | false => exact b rfl
abbrev cs (x : Str) : List Nat := x.cps.toList
theorem glob_str {X : Cx} {x : Str} {c : Str} {pos : Pos} (hg : Gl X x) (hm : ∃ t, X.mg x = some (.str c t)) (hd : (x == ("__debug__" : Str)) = false := by decide) : PE X (.Name x pos) (tC (.str c)) := by
  obtain ⟨t, e⟩ := hm
  exact pe_glob hg e ⟨t, rfl⟩ hd
theorem pe_never {X : Cx} {e : Expr} : PE X e (fun _ _ _ => False) := ⟨fun _ _ _ _ _ _ h => h.elim⟩
theorem pt_never {X : Cx} {e : Expr} : PT X e (fun _ _ _ => False) := ⟨fun _ _ _ _ _ _ h => h.elim⟩
theorem sqT_same {K : Frag} {H H' : Hp} {a : Addr} {xs : List V} (s : Same H H') (h : SqT K H a xs) : SqT K H' a xs := by
  rcases h with (h | ⟨o, h⟩) | h
  · exact .inl (.inl (s _ _ h))
  · exact .inl (.inr ⟨o, s _ _ h⟩)
  · exact .inr h
theorem dp_same {K : Frag} {H H' : Hp} (s : Same H H') : ∀ {d : PyData} {v : V}, Dp K H v d → Dp K H' v d := by
  intro d v h
  exact Dp.rec (motive_1 := fun v d _ => Dp K H' v d) (motive_2 := fun vs ds _ => DpAll K H' vs ds) .non .bl .int .str (fun h1 _ ih => .lst (s.seq h1) ih) (fun h1 _ ih => .tup (sqT_same s h1) ih) .nil (fun _ _ a b => .cons a b) h
theorem dpAll_same {K : Frag} {H H' : Hp} (s : Same H H') : ∀ {ds : List PyData} {vs : List V}, DpAll K H vs ds → DpAll K H' vs ds
  | [], _, .nil => .nil
  | _ :: _, _, .cons h t => .cons (dp_same s h) (dpAll_same s t)
theorem dpLen {K : Frag} {H : Hp} : ∀ {vs : List V} {ds : List PyData}, DpAll K H vs ds → vs.length = ds.length
  | _, _, .nil => rfl
  | _, _, .cons _ t => congrArg Nat.succ (dpLen t)
theorem dpAt {K : Frag} {H : Hp} : ∀ {vs : List V} {ds : List PyData} {i : Nat} {d : PyData}, DpAll K H vs ds → ds[i]? = some d → ∃ v, vs[i]? = some v ∧ Dp K H v d
  | _, _, _, _, .nil, e => by cases e
  | _, _, 0, _, .cons h _, e => by
    obtain rfl := Option.some.inj e
    exact ⟨_, rfl, h⟩
  | _, _, i + 1, _, .cons _ t, e => dpAt (i := i) t e
theorem dpAt' {K : Frag} {H : Hp} : ∀ {vs : List V} {ds : List PyData} {i : Nat} {v : V}, DpAll K H vs ds → vs[i]? = some v → ∃ d, ds[i]? = some d ∧ Dp K H v d
  | _, _, _, _, .nil, e => by cases e
  | _, _, 0, _, .cons h _, e => by
    obtain rfl := Option.some.inj e
    exact ⟨_, rfl, h⟩
  | _, _, i + 1, _, .cons _ t, e => dpAt' (i := i) t e
theorem dpApp {K : Frag} {H : Hp} : ∀ {vs ws : List V} {ds es : List PyData}, DpAll K H vs ds → DpAll K H ws es → DpAll K H (vs ++ ws) (ds ++ es)
  | _, _, _, _, .nil, h => h
  | _, _, _, _, .cons h t, h' => .cons h (dpApp t h')
theorem dpDrop {K : Frag} {H : Hp} : ∀ (n : Nat) {vs : List V} {ds : List PyData}, DpAll K H vs ds → DpAll K H (vs.drop n) (ds.drop n)
  | 0, _, _, h => h
  | n + 1, _, _, .nil => .nil
  | n + 1, _, _, .cons _ t => dpDrop n t
theorem dpTake {K : Frag} {H : Hp} : ∀ (n : Nat) {vs : List V} {ds : List PyData}, DpAll K H vs ds → DpAll K H (vs.take n) (ds.take n)
  | 0, _, _, _ => .nil
  | n + 1, _, _, .nil => .nil
  | n + 1, _, _, .cons h t => .cons h (dpTake n t)
theorem dp_tup {K : Frag} {H : Hp} {v : V} {ds : List PyData} (h : Dp K H v (.tuple ds)) : ∃ a xs, v = .ref a ∧ SqT K H a xs ∧ DpAll K H xs ds := by
  cases h with
  | tup h1 h2 => exact ⟨_, _, rfl, h1, h2⟩
theorem dp_lst {K : Frag} {H : Hp} {v : V} {ds : List PyData} (h : Dp K H v (.list ds)) : ∃ a xs, v = .ref a ∧ SqL K H a xs ∧ DpAll K H xs ds := by
  cases h with
  | lst h1 h2 => exact ⟨_, _, rfl, h1, h2⟩
theorem dp_str {K : Frag} {H : Hp} {v : V} {x : Str} (h : Dp K H v (.str x)) : v = .str x := by
  cases h
  rfl
theorem dp_two {K : Frag} {H : Hp} {v : V} {x y : Str} (h : Dp K H v (.tuple [.str x, .str y])) : ∃ a, v = .ref a ∧ SqT K H a [.str x, .str y] := by
  obtain ⟨a, xs, rfl, q, all⟩ := dp_tup h
  cases all with
  | cons h1 t =>
    cases t with
    | cons h2 t =>
      cases t
      obtain rfl := dp_str h1
      obtain rfl := dp_str h2
      exact ⟨a, rfl, q⟩
/-! # a def's place and promise -/
def Has (P : Program) (w : World) (K : Frag) (mg : Str → Option Value) (base : Heap) (k : Nat) (x : Str) (ps : List Str) (sp : Sp) : Prop :=
  ∃ (f : Addr) (fd : FuncData), mg x = some (.ref f) ∧ PySem.W.keepIn K (.ref f) = true ∧ Binds K fd ps [] ∧ FnOk P w K mg base CX0 k f fd ps sp
/-- the same, its one argument told by its name -/
def HasK (P : Program) (w : World) (K : Frag) (mg : Str → Option Value) (base : Heap) (k : Nat) (x : Str) (ps : List Str) (sp : Sp) : Prop :=
  ∃ (f : Addr) (fd : FuncData), mg x = some (.ref f) ∧ PySem.W.keepIn K (.ref f) = true ∧ Binds K fd ps [] ∧ KBinds K fd ps ps (fun us ws => us ++ ws) (fun vs zs => vs ++ zs) ∧ FnOk P w K mg base CX0 k f fd ps sp
theorem HasK.has {P : Program} {w : World} {K : Frag} {mg : Str → Option Value} {base : Heap} {k : Nat} {x : Str} {ps : List Str} {sp : Sp} (h : HasK P w K mg base k x ps sp) : Has P w K mg base k x ps sp := by
  obtain ⟨f, fd, a, b, c, _, d⟩ := h
  exact ⟨f, fd, a, b, c, d⟩
theorem has_of {P : Program} {w : World} {K : Frag} {mg : Str → Option Value} {base : Heap} {k : Nat} {x qual : Str} {st : Stmt} {f : Addr} {fd : FuncData} {ps : List Str} {sp : Sp} (F : Fun K x qual st f fd) (g : mg x = some (.ref f)) (b : Binds K fd ps []) (o : FnOk P w K mg base CX0 k f fd ps sp) : Has P w K mg base k x ps sp := ⟨f, fd, g, F.kp, b, o⟩
theorem hasK_of {P : Program} {w : World} {K : Frag} {mg : Str → Option Value} {base : Heap} {k : Nat} {x qual : Str} {st : Stmt} {f : Addr} {fd : FuncData} {ps : List Str} {sp : Sp} (F : Fun K x qual st f fd) (g : mg x = some (.ref f)) (b : Binds K fd ps []) (c : KBinds K fd ps ps (fun us ws => us ++ ws) (fun vs zs => vs ++ zs)) (o : FnOk P w K mg base CX0 k f fd ps sp) : HasK P w K mg base k x ps sp := ⟨f, fd, g, F.kp, b, c, o⟩
section
variable {X : Cx} {CX : CXT} {k : Nat} {f : Addr} {fd : FuncData} {ps ks : List Str} {sp : Sp} {x : Str} {p pos : Pos} {E : XK} {kws : List Keyword} {tk : TA} {g : List Value → List Value → List Value} {gV : List V → List V → List V}
def tCallKw (sp : Sp) (gV : List V → List V → List V) (E : XK) (tk : TA) : TE := fun σ H Q => tk σ H fun zs H2 => sp (gV [] zs) H2 Q E
theorem pe_callKw (F : FnOk X.prog X.w X.K X.mg X.base CX k f fd ps sp) (hr : Room k X.A) (hg : Gl X x) (hm : X.mg x = some (.ref f)) (hk : PySem.W.keepIn X.K (.ref f) = true) (hb : KBinds X.K fd ps ks g gV) (hx : Passes CX X E)
    (hkw : PK X kws tk) (hall : (backToKw pos (keywordEach kws X.env)).all (·.1.isSome) = true := by rfl) (hks : (backToKw pos (keywordEach kws X.env)).filterMap (·.1) = ks := by rfl)
    (hdb : (x == ("__debug__" : Str)) = false := by decide)
    (hpl : ((backTo pos (starEach [] X.env)).any (·.1) || (backToKw pos (keywordEach kws X.env)).any (·.1.isNone)) = false := by rfl) :
    PE X (.Call (.Name x p) [] kws pos) (tCallKw sp gV E tk) := by
  refine ⟨fun pins s σ H Q I h => ?_⟩
  refine wpAny_Call_Name_kw (ld_glob I hg hm ?_ hdb)
  refine PySem.W.callWith_KW0 (h₀ := X.base) I.ok.mod.kin hk hall (thn (hkw.run pos pins s σ H _ I h) fun ws s2 ⟨zs, H2, I2, rz, q2⟩ => ⟨I2.kIn, ?_⟩) hpl
  rw [hks]
  exact run_fnk F hr hb hx I2 .nil rz q2
end
theorem len_cs (x : Str) : x.length = (cs x).length := by
  show x.cps.size = _
  simp
theorem ixN_of {n j : Nat} (h : j < n) : ixN n (j : Int) = some j := by
  unfold ixN
  rw [if_pos (by omega), if_pos (by omega)]
  simp
theorem fm0 {m : Int} (h : 0 < m) (a : Int) : 0 ≤ a.fmod m := by
  rw [Int.fmod_eq_emod_of_nonneg _ (by omega)]
  exact Int.emod_nonneg _ (by omega)
theorem fm1 {m : Int} (h : 0 < m) (a : Int) : a.fmod m < m := by
  rw [Int.fmod_eq_emod_of_nonneg _ (by omega)]
  exact Int.emod_lt_of_pos _ h
/-- a while's word over a natural number -/
theorem while_n {c : TT} {tb : TS} {D : Ends} {σ : L2.St} {H : Hp} (Pv : Nat → L2.St → Hp → Prop) (m : Nat) (h0 : Pv m σ H)
    (hs : ∀ m σ H, Pv m σ H → c σ H fun b H1 => if b = true then ∃ N : L2.St → Hp → Prop, (∀ σ' H', N σ' H' → ∃ m', m' < m ∧ Pv m' σ' H') ∧ tb { D with nx := N, ct := N, bk := D.nx } σ H1 else D.nx σ H1) : tWhile c tb D σ H :=
  ⟨Pv, ⟨m, h0⟩, hs⟩
/-! # cases -/
def tNoE : TE := fun _ _ _ => False
theorem pe_no {X : Cx} {e : Expr} : PE X e tNoE := ⟨fun _ _ _ _ _ _ h => h.elim⟩
/-- True, False as a pattern -/
def rBool (c : Bool) : PatR := fun v _ Q => ∃ b, v = .bl b ∧ Q (if b = c then some [] else none)
theorem pp_bool {X : Cx} {pos : Pos} {c : Bool} : PPt X (.MatchSingleton (.bool c) pos) [] (rBool c) := by
  refine ⟨fun pins s σ H v u Q I r h => ?_⟩
  obtain ⟨b, rfl, q⟩ := h
  obtain rfl : u = Value.bool b := r
  refine wpAny_matchPattern_Singleton_bool ?_
  cases b <;> cases c
  · exact ⟨I, rfl, [], .nil, q⟩
  · exact ⟨I, q⟩
  · exact ⟨I, q⟩
  · exact ⟨I, rfl, [], .nil, q⟩
theorem either_bool {b : Bool} {H : Hp} {Q : Option (List V) → Prop} (h : Q (some [])) : rOr [rBool true, rBool false] (.bl b) H Q := by
  cases b
  · exact ⟨false, rfl, ⟨false, rfl, h⟩⟩
  · exact ⟨true, rfl, h⟩
def rNo : PatR := fun _ _ _ => False
theorem pcs_never {X : Cx} {cases : List MatchCase} : PCs X cases [([], rNo, fun _ _ _ => False)] := ⟨fun _ _ _ _ _ _ _ _ _ _ h => h.elim⟩
def Hit (r : PatR) (y : Str) : Prop := ∀ H Q, Q (some []) → r (.str y) H Q
def Miss (r : PatR) (y : Str) : Prop := ∀ H Q, Q none → r (.str y) H Q
theorem hit_lit {c : Str} : Hit (rLit c) c := fun H Q h => ⟨c, rfl, by rw [if_pos rfl]; exact h⟩
theorem miss_lit {c y : Str} (ne : y ≠ c) : Miss (rLit c) y := fun H Q h => ⟨y, rfl, by rw [if_neg ne]; exact h⟩
theorem hit_or {r : PatR} {rs : List PatR} {y : Str} (h : Hit r y) : Hit (rOr (r :: rs)) y := fun H Q q => h H _ q
theorem hit_or2 {r : PatR} {rs : List PatR} {y : Str} (m : Miss r y) (h : Hit (rOr rs) y) : Hit (rOr (r :: rs)) y := fun H Q q => m H _ (h H Q q)
theorem miss_or {r : PatR} {rs : List PatR} {y : Str} (m : Miss r y) (h : Miss (rOr rs) y) : Miss (rOr (r :: rs)) y := fun H Q q => m H _ (h H Q q)
theorem miss_or0 {y : Str} : Miss (rOr []) y := fun H Q q => q
theorem each_caps {H : Hp} : ∀ {ys : List V} {Q : Option (List V) → Prop}, Q (some ys) → rEach (List.replicate ys.length rCap) ys H Q
  | [], _, h => h
  | y :: ys, Q, h => by
    show rEach (List.replicate ys.length rCap) ys H _
    exact each_caps (ys := ys) (Q := fun o' => match o' with | none => Q none | some more => Q (some ([y] ++ more))) h
theorem case_hit {K : Frag} {n : Nat} {r : PatR} {rs : List PatR} {is : List Nat} {t : TS} {rest : List (List Nat × PatR × TS)} {a : Addr} {c : Str} {ys : List V} {D : Ends} {σ : L2.St} {H : Hp} (hq : SqT K H a (.str c :: ys)) (hh : Hit r c) (h : t D (setAll σ is ys) H)
    (hr : rs = List.replicate ys.length rCap := by rfl) (hn : n = ys.length + 1 := by rfl) : tCases ((is, rSeq K n (r :: rs), t) :: rest) (.ref a) D σ H := by
  subst hr
  subst hn
  refine ⟨a, _, rfl, hq, fun ne => absurd rfl ne, fun _ => ?_⟩
  refine hh H _ ?_
  exact each_caps (Q := fun o' => match o' with | none => tCases rest (.ref a) D σ H | some more => t D (setAll σ is ([] ++ more)) H) h
theorem case_miss {K : Frag} {n : Nat} {r : PatR} {rs : List PatR} {is : List Nat} {t : TS} {rest : List (List Nat × PatR × TS)} {a : Addr} {c : Str} {ys : List V} {D : Ends} {σ : L2.St} {H : Hp} (hq : SqT K H a (.str c :: ys)) (hh : Miss r c ∨ ys.length + 1 ≠ n) (h : tCases rest (.ref a) D σ H) :
    tCases ((is, rSeq K n (r :: rs), t) :: rest) (.ref a) D σ H := by
  rcases hh with hh | ne
  · exact ⟨a, _, rfl, hq, fun _ => h, fun _ => hh H _ h⟩
  · exact ⟨a, _, rfl, hq, fun _ => h, fun e => absurd e ne⟩
theorem ml {c y : Str} {n m : Nat} (ne : y ≠ c := by decide +kernel) : Miss (rLit c) y ∨ n ≠ m := .inl (miss_lit ne)
/-- what a piece's tuple holds -/
theorem pc_two {K : Frag} {H : Hp} {v : V} {k : Str} {d : PyData} (h : Dp K H v (.tuple [.str k, d])) : ∃ a x, v = .ref a ∧ SqT K H a [.str k, x] ∧ Dp K H x d := by
  obtain ⟨a, xs, rfl, hq, all⟩ := dp_tup h
  cases all with
  | cons h1 t1 =>
    obtain rfl := dp_str h1
    cases t1 with
    | cons h2 t2 =>
      cases t2
      exact ⟨a, _, rfl, hq, h2⟩
theorem pc_three {K : Frag} {H : Hp} {v : V} {k : Str} {d e : PyData} (h : Dp K H v (.tuple [.str k, d, e])) : ∃ a x y, v = .ref a ∧ SqT K H a [.str k, x, y] ∧ Dp K H x d ∧ Dp K H y e := by
  obtain ⟨a, xs, rfl, hq, all⟩ := dp_tup h
  cases all with
  | cons h1 t1 =>
    obtain rfl := dp_str h1
    cases t1 with
    | cons h2 t2 =>
      cases t2 with
      | cons h3 t3 =>
        cases t3
        exact ⟨a, _, _, rfl, hq, h2, h3⟩
/-- data that can be laid, no deeper than n -/
def Sh (n : Nat) (d : PyData) : Prop := d.canLay0 = true ∧ d.depth ≤ n
theorem sh_all {n : Nat} : ∀ {ds : List PyData}, (∀ d ∈ ds, Sh n d) → PyData.canLayAll0 ds = true ∧ PyData.depthAll ds ≤ n
  | [], _ => ⟨PyData.canLayAll0.eq_1, by rw [PyData.depthAll.eq_1]; exact Nat.zero_le _⟩
  | d :: ds, h => by
    have h1 := h d (.head _)
    have h2 := sh_all (n := n) (ds := ds) fun e m => h e (.tail _ m)
    exact ⟨by rw [PyData.canLayAll0.eq_2, h1.1, h2.1]; rfl, by rw [PyData.depthAll.eq_2]; exact Nat.max_le.mpr ⟨h1.2, h2.2⟩⟩
theorem sh_lst {n : Nat} {ds : List PyData} (h : ∀ d ∈ ds, Sh n d) : Sh (n + 1) (.list ds) := by
  have z := sh_all h
  exact ⟨by rw [PyData.canLay0.eq_5]; exact z.1, by rw [PyData.depth.eq_1]; omega⟩
theorem sh_tup {n : Nat} {ds : List PyData} (h : ∀ d ∈ ds, Sh n d) : Sh (n + 1) (.tuple ds) := by
  have z := sh_all h
  exact ⟨by rw [PyData.canLay0.eq_6]; exact z.1, by rw [PyData.depth.eq_2]; omega⟩
theorem sh_str {x : Str} (h : PyData.strOk x = true) : Sh 0 (.str x) := ⟨by rw [PyData.canLay0.eq_4]; exact h, Nat.le_of_eq rfl⟩
theorem sh_mono {n m : Nat} {d : PyData} (h : Sh n d) (l : n ≤ m) : Sh m d := ⟨h.1, Nat.le_trans h.2 l⟩
theorem sh_ok {n : Nat} {d : PyData} (h : Sh n d) (l : n ≤ 64 := by decide) : SeqAt.shaped d = true := by
  unfold SeqAt.shaped
  rw [h.1, decide_eq_true (Nat.le_trans h.2 l)]
  rfl
theorem eqv_nil (ds : List PyData) : PyData.eqv (.list ds) (.list []) = ds.isEmpty := by
  cases ds <;> rfl
/-- all of the answers of a walk -/
theorem lc_all {K : Frag} {a D : Addr} {xs : List V} {bs : List Bool} {H : Hp} {σ : L2.St} {vs : List Nat} {g : TG} {te : TE} {Qd : Hp → Prop} (hq : SqL K H a xs) (hD : H D = none) (hb : bs.length = xs.length) (hl : xs.length ≤ 1000)
    (turn : ∀ (i : Nat) (x : V) (b : Bool) (H' : Hp) (Q : VK), xs[i]? = some x → bs[i]? = some b → Same H H' → (∀ H4, Same H' H4 → Q (.bl b) H4) → g x (wipe σ vs) H' fun σ2 H2 => wipe σ2 vs = wipe σ vs ∧ te σ2 H2 Q)
    (hd : ∀ H', Same H H' → SqL K H' D (bs.map V.bl) → Qd H') :
    ∃ W : Nat → Nat → Hp → Prop, (∃ m, W 0 m (L2.upd H D (.lst []))) ∧ ∀ i m H, W i m H →
      ((Itl K a).stop i H ∧ Qd H) ∨ ((Itl K a).go i H ∧ ∃ Nx : Hp → Prop, (∀ H', Nx H' → ∃ m', m' < m ∧ W (i + 1) m' H') ∧ ∀ x H', (Itl K a).yld i H x H' → g x (wipe σ vs) H' fun σ2 H2 => wipe σ2 vs = wipe σ vs ∧ tYes σ2 H2 fun b H3 =>
        if b = true then te σ2 H3 fun y H4 => ∃ acc, H4 D = some (.lst acc) ∧ acc.length < sizeLine ∧ Nx (L2.upd H4 D (.lst (acc ++ [y]))) else Nx H3) := by
  refine lc_it (walk_list (xs := xs)) (fun i H' => Same H H' ∧ H' D = some (.lst ((bs.take i).map V.bl))) ⟨same_upd hD, upd_same⟩ (fun i H' _ e => e.1.seq hq) (fun i x H' H2 hi e y => ?_) (fun H' e => ?_)
  · obtain ⟨rfl, hx⟩ := y
    obtain ⟨s1, h1⟩ := e
    obtain ⟨b, hbi⟩ : ∃ b, bs[i]? = some b := ⟨_, List.getElem?_eq_getElem (by omega)⟩
    refine turn i x b H2 _ hx hbi s1 fun H4 s4 => ⟨_, s4 _ _ h1, ?_, same_upd2 (s1.trans s4) hD, ?_⟩
    · rw [List.length_map, List.length_take, sizeLine_eq]
      omega
    · rw [upd_same, take_snoc hbi, List.map_append]
      rfl
  · obtain ⟨s1, h1⟩ := e
    rw [← hb, List.take_length] at h1
    exact hd H' s1 (SqL.of h1)
def hide (H : Hp) (W : Addr) : Hp := fun b => if b = W then none else H b
theorem hide_same {H : Hp} {W : Addr} : Same (hide H W) H := fun b o h => by
  unfold hide at h
  by_cases e : b = W
  · rw [if_pos e] at h; cases h
  · rw [if_neg e] at h; exact h
theorem hide_upd {H : Hp} {W : Addr} {o : HO} : Same (hide H W) (hide (L2.upd H W o) W) := fun b u h => by
  unfold hide at h ⊢
  by_cases e : b = W
  · rw [if_pos e] at h; cases h
  · rw [if_neg e] at h ⊢
    rw [upd_ne e]
    exact h
theorem hide_ne {H : Hp} {W b : Addr} {o : HO} (h : H b = some o) (ne : b ≠ W) : hide H W b = some o := by
  unfold hide
  rw [if_neg ne]
  exact h
theorem hide_mono {H H' : Hp} {W : Addr} (s : Same H H') : Same (hide H W) (hide H' W) := fun b u h => by
  unfold hide at h ⊢
  by_cases e : b = W
  · rw [if_pos e] at h; cases h
  · rw [if_neg e] at h ⊢
    exact s b u h
/-- what was there before W came -/
theorem hide_of {H H' : Hp} {W : Addr} (s : Same H H') (h : H W = none) : Same H (hide H' W) := fun b u e => by
  unfold hide
  rw [if_neg (ne_of_none e h)]
  exact s b u e
end Qb
end PySem
namespace PySem
namespace Qb
open PySem.W PySem.Calls PyProof.Rows L2
def signsS : Str := "\n !\"#$&'()*+,-./0123456789:;<=>?@ABCDEFGHIJKLMNOPQRSTUVWXYZ[\\]^_`abcdefghijklmnopqrstuvwxyz{|}~"
abbrev sg (c : Nat) : Str := ⟨#[c]⟩
abbrev Pr := Option Nat × Str
abbrev Rw := Nat × Str
def tx : Option Nat → Str
  | none => ""
  | some c => sg c
def prD (p : Pr) : PyData := .tuple [.str (tx p.1), .str p.2]
def rwD (r : Rw) : PyData := .tuple [.str (sg r.1), .str r.2]
def rgD (r : Nat × Nat) : PyData := .tuple [.str (sg r.1), .str (sg r.2)]
inductive Pt where
  | one (c : Nat)
  | any
  | lot
  | of (no : Bool) (rs : List (Nat × Nat))
def Pt.d : Pt → PyData
  | .one c => .tuple [.str "one", .str (sg c)]
  | .any => .tuple [.str "any"]
  | .lot => .tuple [.str "lot"]
  | .of no rs => .tuple [.str "of", .bool no, .list (rs.map rgD)]
def rowOf (ps : List Pr) : List Rw := ps.filterMap fun p => p.1.map fun c => (c, p.2)
def loose (r : Rw) (ch : Nat) : Bool := r.1 == ch && r.2 != "firm"
def looseAt (row : List Rw) (i ch : Nat) : Bool := match row[i]? with
  | some r => loose r ch
  | none => false
def rg : List Rw → List (Nat × Nat)
  | [] => []
  | a :: [] => [(a.1, a.1)]
  | a :: b :: [] => (a.1, a.1) :: rg [b]
  | a :: b :: c :: r => if (loose b 45 && decide (a.1 ≤ c.1)) = true then (a.1, c.1) :: rg r else (a.1, a.1) :: rg (b :: c :: r)
theorem looseAt_drop (row : List Rw) (i j ch : Nat) : looseAt (row.drop i) j ch = looseAt row (i + j) ch := by
  unfold looseAt
  rw [List.getElem?_drop]
/-- one range at a place of a row -/
theorem rg_far {row : List Rw} {i : Nat} {a c : Rw} (ha : row[i]? = some a) (hc : row[i + 2]? = some c) (h : looseAt row (i + 1) 45 = true) (l : a.1 ≤ c.1) : rg (row.drop i) = (a.1, c.1) :: rg (row.drop (i + 3)) := by
  obtain ⟨l1, rfl⟩ := List.getElem?_eq_some_iff.mp ha
  obtain ⟨l3, rfl⟩ := List.getElem?_eq_some_iff.mp hc
  have e : row.drop i = row[i] :: row[i + 1] :: row[i + 2] :: row.drop (i + 3) := by
    rw [List.drop_eq_getElem_cons l1, List.drop_eq_getElem_cons (show i + 1 < row.length by omega), List.drop_eq_getElem_cons l3]
  have hb : loose row[i + 1] 45 = true := by
    unfold looseAt at h
    rw [List.getElem?_eq_getElem (show i + 1 < row.length by omega)] at h
    exact h
  rw [e, rg, if_pos (by rw [hb, decide_eq_true l]; rfl)]
theorem rg_near {row : List Rw} {i : Nat} {a : Rw} (ha : row[i]? = some a) (h : looseAt row (i + 1) 45 = true → ∀ c, row[i + 2]? = some c → ¬ a.1 ≤ c.1) : rg (row.drop i) = (a.1, a.1) :: rg (row.drop (i + 1)) := by
  obtain ⟨l1, rfl⟩ := List.getElem?_eq_some_iff.mp ha
  rw [List.drop_eq_getElem_cons l1]
  by_cases h2 : i + 1 < row.length
  · rw [List.drop_eq_getElem_cons h2]
    by_cases h3 : i + 2 < row.length
    · rw [List.drop_eq_getElem_cons h3, rg, if_neg]
      intro z
      rw [Bool.and_eq_true] at z
      refine h ?_ _ (List.getElem?_eq_getElem h3) (of_decide_eq_true z.2)
      unfold looseAt
      rw [List.getElem?_eq_getElem h2]
      exact z.1
    · rw [List.drop_eq_nil_of_le (show row.length ≤ i + 1 + 1 by omega)]
      simp only [rg]
  · rw [List.drop_eq_nil_of_le (show row.length ≤ i + 1 by omega), rg, rg]
theorem rg_end {row : List Rw} {i : Nat} (h : row.length ≤ i) : rg (row.drop i) = [] := by
  rw [List.drop_eq_nil_of_le h, rg]
def scan (p : Nat → Bool) (k : Nat) : Nat → Option Nat
  | 0 => none
  | n + 1 => if p k = true then some k else scan p (k + 1) n
theorem scan_ge {p : Nat → Bool} : ∀ {n k j : Nat}, scan p k n = some j → k ≤ j ∧ j < k + n ∧ p j = true
  | 0, _, _, h => by cases h
  | n + 1, k, j, h => by
    rw [scan] at h
    by_cases c : p k = true
    · rw [if_pos c] at h
      obtain rfl := Option.some.inj h
      exact ⟨Nat.le_refl _, by omega, c⟩
    · rw [if_neg c] at h
      have := scan_ge h
      exact ⟨by omega, by omega, this.2.2⟩
theorem scan_none {p : Nat → Bool} : ∀ {n k : Nat}, scan p k n = none → ∀ j, k ≤ j → j < k + n → p j = false
  | 0, _, _, j, h1, h2 => by omega
  | n + 1, k, h, j, h1, h2 => by
    rw [scan] at h
    by_cases c : p k = true
    · rw [if_pos c] at h; cases h
    · rw [if_neg c] at h
      by_cases e : j = k
      · subst e
        simpa using c
      · exact scan_none h j (by omega) (by omega)
theorem scan_first {p : Nat → Bool} : ∀ {n k j : Nat}, scan p k n = some j → ∀ i, k ≤ i → i < j → p i = false
  | 0, _, _, h, _, _, _ => by cases h
  | n + 1, k, j, h, i, h1, h2 => by
    rw [scan] at h
    by_cases c : p k = true
    · rw [if_pos c] at h
      obtain rfl := Option.some.inj h
      omega
    · rw [if_neg c] at h
      by_cases e : i = k
      · subst e
        simpa using c
      · exact scan_first h i (by omega) h2
theorem scan_eq {p : Nat → Bool} : ∀ {n k j : Nat}, k ≤ j → j < k + n → p j = true → (∀ i, k ≤ i → i < j → p i = false) → scan p k n = some j
  | 0, k, j, h1, h2, _, _ => by omega
  | n + 1, k, j, h1, h2, h3, h4 => by
    rw [scan]
    by_cases e : j = k
    · subst e
      rw [if_pos h3]
    · rw [if_neg (by rw [h4 k (Nat.le_refl _) (by omega)]; decide)]
      exact scan_eq (by omega) (by omega) h3 fun i a b => h4 i (by omega) b
theorem scan_eq_none {p : Nat → Bool} : ∀ {n k : Nat}, (∀ j, k ≤ j → j < k + n → p j = false) → scan p k n = none
  | 0, _, _ => rfl
  | n + 1, k, h => by
    rw [scan, if_neg (by rw [h k (Nat.le_refl _) (by omega)]; decide)]
    exact scan_eq_none fun j a b => h j (by omega) (by omega)
/-- where what stands between brackets begins, and where it ends -/
def bg (row : List Rw) (i : Nat) : Nat := if looseAt row (i + 1) 33 = true then i + 2 else i + 1
def nd (row : List Rw) (i : Nat) : Option Nat := scan (fun k => looseAt row k 93) (bg row i + 1) (row.length - (bg row i + 1))
def endAt (row : List Rw) (i : Nat) : Option Nat := if looseAt row i 91 = true then nd row i else none
def single (r : Rw) : Pt := if loose r 42 = true then .lot else if loose r 63 = true then .any else .one r.1
def ofAt (row : List Rw) (i j : Nat) : Pt := .of (looseAt row (i + 1) 33) (rg ((row.take j).drop (bg row i)))
def ptFrom (row : List Rw) : Nat → Nat → List Pt
  | 0, _ => []
  | n + 1, i => match row[i]? with
    | none => []
    | some r => match endAt row i with
      | some j => ofAt row i j :: ptFrom row n (j + 1)
      | none => single r :: ptFrom row n (i + 1)
def patOf (ps : List Pr) : List Pt := ptFrom (rowOf ps) (rowOf ps).length 0
theorem bg_ge (row : List Rw) (i : Nat) : i + 1 ≤ bg row i ∧ bg row i ≤ i + 2 := by
  unfold bg
  by_cases c : looseAt row (i + 1) 33 = true
  · rw [if_pos c]; omega
  · rw [if_neg c]; omega
theorem endAt_ge {row : List Rw} {i j : Nat} (h : endAt row i = some j) : bg row i + 1 ≤ j ∧ j < row.length := by
  unfold endAt at h
  by_cases c : looseAt row i 91 = true
  · rw [if_pos c] at h
    have := scan_ge h
    omega
  · rw [if_neg c] at h; cases h
theorem pt_end {row : List Rw} {n i : Nat} (h : row.length ≤ i) : ptFrom row n i = [] := by
  cases n with
  | zero => rfl
  | succ n => rw [ptFrom, List.getElem?_eq_none h]
theorem pt_of {row : List Rw} {n i j : Nat} {r : Rw} (hr : row[i]? = some r) (h : endAt row i = some j) : ptFrom row (n + 1) i = ofAt row i j :: ptFrom row n (j + 1) := by
  rw [ptFrom, hr]
  show (match endAt row i with | some j => _ | none => _) = _
  rw [h]
theorem pt_one {row : List Rw} {n i : Nat} {r : Rw} (hr : row[i]? = some r) (h : endAt row i = none) : ptFrom row (n + 1) i = single r :: ptFrom row n (i + 1) := by
  rw [ptFrom, hr]
  show (match endAt row i with | some j => _ | none => _) = _
  rw [h]
/-! ## what changes nothing -/
def fl (m : Str) : Str := if m = "bare" then "loose" else if m = "loose" then "bare" else m
theorem fl_firm (m : Str) : (fl m != "firm") = (m != "firm") := by
  unfold fl
  by_cases a : m = "bare"
  · rw [if_pos a, a]; decide +kernel
  · rw [if_neg a]
    by_cases b : m = "loose"
    · rw [if_pos b, b]; decide +kernel
    · rw [if_neg b]
def turn (p : Pr) : Pr := (p.1, fl p.2)
def trw (r : Rw) : Rw := (r.1, fl r.2)
theorem loose_trw (r : Rw) (ch : Nat) : loose (trw r) ch = loose r ch := by
  unfold loose trw
  rw [fl_firm]
theorem looseAt_trw (row : List Rw) (i ch : Nat) : looseAt (row.map trw) i ch = looseAt row i ch := by
  unfold looseAt
  rw [List.getElem?_map]
  cases row[i]? with
  | none => rfl
  | some r => exact loose_trw r ch
theorem rg_trw : ∀ row : List Rw, rg (row.map trw) = rg row
  | [] => rfl
  | [a] => rfl
  | [a, b] => rfl
  | a :: b :: c :: r => by
    have h1 := rg_trw r
    have h2 := rg_trw (b :: c :: r)
    rw [List.map_cons, List.map_cons, List.map_cons] at *
    rw [rg, rg, loose_trw, h1, ← h2]
    rfl
theorem bg_trw (row : List Rw) (i : Nat) : bg (row.map trw) i = bg row i := by
  unfold bg
  rw [looseAt_trw]
theorem endAt_trw (row : List Rw) (i : Nat) : endAt (row.map trw) i = endAt row i := by
  unfold endAt nd
  rw [looseAt_trw, bg_trw, List.length_map]
  have : (fun k => looseAt (row.map trw) k 93) = fun k => looseAt row k 93 := funext fun k => looseAt_trw row k 93
  rw [this]
theorem single_trw (r : Rw) : single (trw r) = single r := by
  unfold single
  rw [loose_trw, loose_trw]
  rfl
theorem ofAt_trw (row : List Rw) (i j : Nat) : ofAt (row.map trw) i j = ofAt row i j := by
  unfold ofAt
  rw [looseAt_trw, bg_trw, ← List.map_take, ← List.map_drop, rg_trw]
theorem pt_trw (row : List Rw) : ∀ n i, ptFrom (row.map trw) n i = ptFrom row n i
  | 0, _ => rfl
  | n + 1, i => by
    cases e : row[i]? with
    | none => rw [pt_end (by simpa using e), pt_end (by simpa using e)]
    | some r =>
      have e2 : (row.map trw)[i]? = some (trw r) := by rw [List.getElem?_map, e]; rfl
      cases h : endAt row i with
      | some j => rw [pt_of e h, pt_of e2 (by rw [endAt_trw]; exact h), ofAt_trw, pt_trw row n]
      | none => rw [pt_one e h, pt_one e2 (by rw [endAt_trw]; exact h), single_trw, pt_trw row n]
theorem row_turn (ps : List Pr) : rowOf (ps.map turn) = (rowOf ps).map trw := by
  unfold rowOf
  rw [List.filterMap_map, List.map_filterMap]
  congr 1
  funext p
  obtain ⟨o, m⟩ := p
  cases o <;> rfl
theorem pat_turn (ps qs : List Pr) (h : ps.map turn = qs) : patOf qs = patOf ps := by
  subst h
  unfold patOf
  rw [row_turn, List.length_map, pt_trw]
/-- the turned pairs with a tuple without a sign among them -/
def hole : Pr := (none, "firm")
theorem pat_put (ps : List Pr) (i : Nat) : patOf ((ps.map turn).take i ++ [hole] ++ (ps.map turn).drop i) = patOf ps := by
  have e : rowOf ((ps.map turn).take i ++ [hole] ++ (ps.map turn).drop i) = rowOf (ps.map turn) := by
    unfold rowOf
    rw [List.filterMap_append, List.filterMap_append]
    show _ ++ [] ++ _ = _
    rw [List.append_nil, ← List.filterMap_append, List.take_append_drop]
  unfold patOf
  rw [e, row_turn, List.length_map, pt_trw]
/-! ## firm signs alone -/
def firmR (r : Rw) : Rw := (r.1, "firm")
def firmP (p : Pr) : Pr := (p.1, "firm")
def firmOf (ps : List Pr) : List Pr := ps.map firmP
theorem pt_firm (row : List Rw) (h : ∀ r ∈ row, r.2 = "firm") : ∀ n i, row.length - i ≤ n → ptFrom row n i = (row.drop i).map fun r => Pt.one r.1
  | 0, i, l => by rw [List.drop_eq_nil_of_le (by omega)]; rfl
  | n + 1, i, l => by
    have no : ∀ k ch, looseAt row k ch = false := fun k ch => by
      unfold looseAt
      cases e : row[k]? with
      | none => rfl
      | some r =>
        show loose r ch = false
        unfold loose
        rw [h r (List.mem_of_getElem? e)]
        simp
    cases e : row[i]? with
    | none =>
      have : row.length ≤ i := by simpa using e
      rw [pt_end this, List.drop_eq_nil_of_le this]; rfl
    | some r =>
      obtain ⟨l1, rfl⟩ := List.getElem?_eq_some_iff.mp e
      have ns : ∀ ch, loose row[i] ch = false := fun ch => by
        have := no i ch
        unfold looseAt at this
        rw [e] at this
        exact this
      rw [pt_one e (by unfold endAt; rw [no, if_neg (by decide)]), pt_firm row h n (i + 1) (by omega), List.drop_eq_getElem_cons l1]
      unfold single
      rw [ns, ns]
      rfl
theorem pat_firm (ps : List Pr) : patOf (firmOf ps) = (rowOf ps).map fun r => Pt.one r.1 := by
  have e : rowOf (firmOf ps) = (rowOf ps).map firmR := by
    unfold rowOf firmOf
    rw [List.filterMap_map, List.map_filterMap]
    congr 1
    funext p
    obtain ⟨o, m⟩ := p
    cases o <;> rfl
  unfold patOf
  rw [e, pt_firm _ (fun r m => by obtain ⟨q, _, rfl⟩ := List.mem_map.mp m; rfl) _ _ (by simp), List.drop_zero, List.map_map]
  rfl
/-! ## they are patterns -/
def Pt.good : Pt → Prop
  | .one c => c ∈ cs signsS
  | .of _ rs => rs ≠ [] ∧ ∀ r ∈ rs, r.1 ∈ cs signsS ∧ r.2 ∈ cs signsS ∧ r.1 ≤ r.2
  | _ => True
def Pt.few : Pt → Prop
  | .of _ rs => rs.length ≤ 300
  | _ => True
theorem rg_good : ∀ (row : List Rw), (∀ r ∈ row, r.1 ∈ cs signsS) → ∀ p ∈ rg row, p.1 ∈ cs signsS ∧ p.2 ∈ cs signsS ∧ p.1 ≤ p.2
  | [], _ => fun p m => by rw [rg] at m; cases m
  | [a], h => fun p m => by
    rw [rg] at m
    rcases List.mem_singleton.mp m with rfl
    exact ⟨h _ (.head _), h _ (.head _), Nat.le_refl _⟩
  | [a, b], h => fun p m => by
    rw [rg, rg] at m
    rcases List.mem_cons.mp m with rfl | m
    · exact ⟨h _ (.head _), h _ (.head _), Nat.le_refl _⟩
    · rcases List.mem_singleton.mp m with rfl
      exact ⟨h _ (.tail _ (.head _)), h _ (.tail _ (.head _)), Nat.le_refl _⟩
  | a :: b :: c :: r, h => fun p m => by
    rw [rg] at m
    by_cases z : (loose b 45 && decide (a.1 ≤ c.1)) = true
    · rw [if_pos z] at m
      rcases List.mem_cons.mp m with rfl | m
      · exact ⟨h _ (.head _), h _ (.tail _ (.tail _ (.head _))), of_decide_eq_true (Bool.and_eq_true _ _ ▸ z).2⟩
      · exact rg_good r (fun x m => h x (.tail _ (.tail _ (.tail _ m)))) p m
    · rw [if_neg z] at m
      rcases List.mem_cons.mp m with rfl | m
      · exact ⟨h _ (.head _), h _ (.head _), Nat.le_refl _⟩
      · exact rg_good (b :: c :: r) (fun x m => h x (.tail _ m)) p m
theorem rg_some : ∀ {row : List Rw}, row ≠ [] → rg row ≠ []
  | [], h => (h rfl).elim
  | [a], _ => by rw [rg]; simp
  | [a, b], _ => by rw [rg]; simp
  | a :: b :: c :: r, _ => by
    rw [rg]
    by_cases z : (loose b 45 && decide (a.1 ≤ c.1)) = true
    · rw [if_pos z]; simp
    · rw [if_neg z]; simp
theorem rg_len : ∀ (row : List Rw), (rg row).length ≤ row.length
  | [] => by rw [rg]; simp
  | [a] => by rw [rg]; simp
  | [a, b] => by rw [rg, rg]; simp
  | a :: b :: c :: r => by
    rw [rg]
    by_cases z : (loose b 45 && decide (a.1 ≤ c.1)) = true
    · rw [if_pos z]
      have := rg_len r
      simp only [List.length_cons] at *
      omega
    · rw [if_neg z]
      have := rg_len (b :: c :: r)
      simp only [List.length_cons] at *
      omega
theorem pt_good (row : List Rw) (h : ∀ r ∈ row, r.1 ∈ cs signsS) (hl : row.length ≤ 300) : ∀ n i, ∀ p ∈ ptFrom row n i, p.good ∧ p.few
  | 0, _ => fun p m => by cases m
  | n + 1, i => fun p m => by
    cases e : row[i]? with
    | none => rw [pt_end (by simpa using e)] at m; cases m
    | some r =>
      cases z : endAt row i with
      | some j =>
        rw [pt_of e z] at m
        rcases List.mem_cons.mp m with rfl | m
        · have b1 := endAt_ge z
          have b2 := rg_len ((row.take j).drop (bg row i))
          refine ⟨⟨rg_some fun q => ?_, rg_good _ fun x mx => h x (List.mem_of_mem_take (List.mem_of_mem_drop mx))⟩, ?_⟩
          · have := congrArg List.length q
            rw [List.length_drop, List.length_take] at this
            simp at this
            omega
          · show (rg _).length ≤ 300
            rw [List.length_drop, List.length_take] at b2
            omega
        · exact pt_good row h hl n _ p m
      | none =>
        rw [pt_one e z] at m
        rcases List.mem_cons.mp m with rfl | m
        · unfold single
          by_cases c1 : loose r 42 = true
          · rw [if_pos c1]; exact ⟨trivial, trivial⟩
          · rw [if_neg c1]
            by_cases c2 : loose r 63 = true
            · rw [if_pos c2]; exact ⟨trivial, trivial⟩
            · rw [if_neg c2]; exact ⟨h r (List.mem_of_getElem? e), trivial⟩
        · exact pt_good row h hl n _ p m
theorem pt_len (row : List Rw) : ∀ n i, i ≤ row.length → (ptFrom row n i).length + i ≤ row.length
  | 0, i => fun h => by rw [ptFrom]; simpa using h
  | n + 1, i => fun h => by
    cases e : row[i]? with
    | none => rw [pt_end (by simpa using e)]; simpa using h
    | some r =>
      have l1 := (List.getElem?_eq_some_iff.mp e).1
      cases z : endAt row i with
      | some j =>
        have b1 := endAt_ge z
        have b2 := bg_ge row i
        rw [pt_of e z]
        have := pt_len row n (j + 1) (by omega)
        simp only [List.length_cons]
        omega
      | none =>
        rw [pt_one e z]
        have := pt_len row n (i + 1) (by omega)
        simp only [List.length_cons]
        omega
def okPr (p : Pr) : Prop := (∀ c, p.1 = some c → c ∈ cs signsS) ∧ p.2 ∈ (["firm", "cut", "bare", "loose"] : List Str)
theorem row_ok {ps : List Pr} (h : ∀ p ∈ ps, okPr p) : ∀ r ∈ rowOf ps, r.1 ∈ cs signsS := by
  intro r m
  obtain ⟨p, mp, e⟩ := List.mem_filterMap.mp m
  obtain ⟨o, k⟩ := p
  cases o with
  | none => cases e
  | some c =>
    obtain rfl := Option.some.inj e
    exact (h _ mp).1 c rfl
theorem row_len (ps : List Pr) : (rowOf ps).length ≤ ps.length := List.length_filterMap_le _ _
theorem pat_good {ps : List Pr} (h : ∀ p ∈ ps, okPr p) (hl : ps.length ≤ 300) : ∀ p ∈ patOf ps, p.good ∧ p.few :=
  pt_good _ (row_ok h) (Nat.le_trans (row_len ps) hl) _ _
theorem pat_len (ps : List Pr) : (patOf ps).length ≤ ps.length := by
  have := pt_len (rowOf ps) (rowOf ps).length 0 (Nat.zero_le _)
  have := row_len ps
  unfold patOf
  omega
end Qb
end PySem
namespace PySem
namespace Qb
open PySem.W PySem.Calls PyProof.Rows L2
def top (i : Nat) : Stmt := PySem.Challenge.pw_quotedback_k21_patterns_of_signs.main.body.getD i (.Pass ⟨0, 0, 0, 0⟩)
/-- names of the machine that the text's top leaves as they are -/
structure Blt (mg : Str → Option Value) : Prop where
  abs : mg "abs" = none
  int : mg "int" = none
  len : mg "len" = none
  range : mg "range" = none
  isi : mg "isinstance" = none
  all : mg "all" = none
  max : mg "max" = none
  min : mg "min" = none
  list : mg "list" = none
  tuple : mg "tuple" = none
  str : mg "str" = none
  bool : mg "bool" = none
/-- what the text's top says of its written things -/
structure Wrt (K : Frag) (w : World) (mg : Str → Option Value) : Prop where
  signs : ∃ t, mg "SIGNS" = some (.str signsS t)
  special : ∃ (d : Addr) (es : Array DictEntry) (n : Nat) (L A : Addr), mg "SPECIAL" = some (.ref d) ∧ KDict K w d es n ∧ (∀ c, PySem.W.nsIn K d (sg c) = some (if c = 42 then some (.ref L) else if c = 63 then some (.ref A) else none)) ∧ (∀ H, SqT K H L [.str "lot"]) ∧ ∀ H, SqT K H A [.str "any"]
theorem eq_sg {c d : Nat} {x : Str} (hx : x = sg d) : decide (V.str (sg c) = V.str x) = (c == d) := by
  subst hx
  by_cases h : c = d
  · subst h; simp
  · rw [decide_eq_false, beq_eq_false_iff_ne.mpr h]
    intro z
    injection z with z
    have := congrArg cs z
    exact h (List.cons.inj this).1
theorem lt_sg (a b : Nat) : decide ((sg a).cps.toList < (sg b).cps.toList) = decide (a < b) := by
  have e : ((sg a).cps.toList < (sg b).cps.toList) ↔ a < b := by
    show ([a] : List Nat) < [b] ↔ a < b
    constructor
    · intro z
      cases z with
      | rel h => exact h
      | cons h => cases h
    · exact fun h => .rel h
  by_cases h : a < b
  · rw [decide_eq_true h, decide_eq_true (e.mpr h)]
  · rw [decide_eq_false h, decide_eq_false (fun z => h (e.mp z))]
theorem sg_len (c : Nat) : (sg c).length = 1 := rfl
theorem ty_lst {K : Frag} {H : Hp} {a : Addr} {xs : List V} (h : SqL K H a xs) : TyX K H (.ref a) (.type "list") := by
  rcases h with (h | ⟨o, h⟩) | ⟨o, its, n, h, c, _⟩
  · exact .base (.lst h)
  · exact .base (.frz h)
  · exact .kList h c
theorem ty_tup {K : Frag} {H : Hp} {a : Addr} {xs : List V} (h : SqT K H a xs) : TyX K H (.ref a) (.type "tuple") := by
  rcases h with (h | ⟨o, h⟩) | ⟨o, its, n, h, c, _⟩
  · exact .base (.tup h)
  · exact .fTuple h
  · exact .kTuple h c
theorem small_line {n : Nat} (h : n ≤ 1000000) : n ≤ sizeLine := by
  rw [sizeLine_eq]
  omega
def spSg : Sp := fun vs H Q _ => ∃ c, vs = [.str (sg c)] ∧ c ∈ cs signsS ∧ ∀ H', Same H H' → Q (.bl true) H'
def spRg (K : Frag) : Sp := fun vs H Q _ => ∃ v r, vs = [v] ∧ Dp K H v (rgD r) ∧ (r.1 ∈ cs signsS ∧ r.2 ∈ cs signsS ∧ r.1 ≤ r.2) ∧ ∀ H', Same H H' → Q (.bl true) H'
def spPp (K : Frag) : Sp := fun vs H Q _ => ∃ v p, vs = [v] ∧ Dp K H v (Pt.d p) ∧ p.good ∧ p.few ∧ ∀ H', Same H H' → Q (.bl true) H'
def spPa (K : Frag) : Sp := fun vs H Q _ => ∃ (v : V) (ps : List Pt), vs = [v] ∧ Dp K H v (.list (ps.map Pt.d)) ∧ ps.length ≤ 1000 ∧ (∀ p ∈ ps, p.good ∧ p.few) ∧ ∀ H', Same H H' → Q (.bl true) H'
def rowD (row : List Rw) : PyData := .list (row.map rwD)
def spLo (K : Frag) : Sp := fun vs H Q _ => ∃ v row i ch, vs = [v, .int (i : Nat), .str (sg ch)] ∧ Dp K H v (rowD row) ∧ ∀ H', Same H H' → Q (.bl (looseAt row i ch)) H'
section
variable {P : Program} {w : World} {K : Frag} {mg : Str → Option Value} {base : Heap}
theorem row_at {H : Hp} {v : V} {row : List Rw} (h : Dp K H v (rowD row)) : ∃ (a : Addr) (xs : List V), v = .ref a ∧ SqL K H a xs ∧ xs.length = row.length ∧ DpAll K H xs (row.map rwD) ∧ ∀ (i : Nat) (r : Rw), row[i]? = some r → ∃ t : Addr, xs[i]? = some (.ref t) ∧ SqT K H t [.str (sg r.1), .str r.2] := by
  obtain ⟨a, xs, rfl, q, all⟩ := dp_lst h
  refine ⟨a, xs, rfl, q, by rw [dpLen all, List.length_map], all, fun i r e => ?_⟩
  obtain ⟨x, hx, d⟩ := dpAt all (i := i) (d := rwD r) (by rw [List.getElem?_map, e]; rfl)
  obtain ⟨t, rfl, q⟩ := dp_two d
  exact ⟨t, hx, q⟩
abbrev sSg : Stmt := top 8
abbrev nSg : List Str := ["text"]
theorem scSg : FnScope nSg ["text"] (defScope sSg) := ⟨rfl, rfl, rfl, by decide +kernel, rfl, by decide +kernel, by decide +kernel⟩
theorem has_Sg {f : Addr} {fd : FuncData} (F : Fun K "is_sign" "is_sign" sSg f fd) (g : mg "is_sign" = some (.ref f)) (B : Blt mg) (W : Wrt K w mg) :
    Has P w K mg base 1 "is_sign" ["text"] spSg := by
  refine has_of F g (F.binds (ps := ["text"]) fun _ _ _ _ _ _ us hl => match us, hl with | [_], _ => rfl) (F.ok scSg (fun vs H Q E h => ?_) (fun cdv A outer s H vs Q E hr h => ?_))
  · obtain ⟨x, rfl, _⟩ := h
    rfl
  · refine ⟨_, (pss_one (ps_ret (pe_and (pe_callB call_isi (by rfl) B.isi (by decide +kernel) (pa_cons (pv 0) (pa_cons (pe_bltn (v := .ty "str") (by rfl) B.str (by decide +kernel) rfl) pa_nil))) (pe_and (pe_cmpR op_eq (pe_callB call_len (by rfl) B.len PySem.boot_len (pa_cons (pv 0) pa_nil)) pe_int (nomark _)) (pe_one (pe_cmpR op_in_sign (pv 0) (glob_str (by rfl) W.signs) (by rfl))))))), ?_⟩
    obtain ⟨c, rfl, hc, k⟩ := h
    refine ⟨_, rfl, .str (sg c), .ty "str", .type "str", .type "str", true, rfl, .ty _, .base (.str (sg c)), kit_ty (by decide +kernel), _, rfl, if_yes rfl ⟨_, rfl, .str (sg c), 1, rfl, ⟨small_line (by rw [sg_len]; decide), rfl⟩, rfl, _, rfl, if_yes (by simp) ⟨_, rfl, c, signsS, rfl, rfl, ?_⟩⟩⟩
    rw [decide_eq_true hc]
    exact k H (Same.refl H)
abbrev sRg : Stmt := top 15
abbrev nRg : List Str := ["told", "first", "last"]
theorem scRg : FnScope nRg ["told"] (defScope sRg) := ⟨rfl, rfl, rfl, by decide +kernel, rfl, by decide +kernel, by decide +kernel⟩
theorem has_Rg {f : Addr} {fd : FuncData} (F : Fun K "is_range" "is_range" sRg f fd) (g : mg "is_range" = some (.ref f)) (B : Blt mg) (hSg : Has P w K mg base 1 "is_sign" ["text"] spSg) :
    Has P w K mg base 2 "is_range" ["told"] (spRg K) := by
  obtain ⟨fSg, dSg, gSg, kSg, bSg, GSg⟩ := hSg
  refine has_of F g (F.binds (ps := ["told"]) fun _ _ _ _ _ _ us hl => match us, hl with | [_], _ => rfl) (F.ok scRg (fun vs H Q E h => ?_) (fun cdv A outer s H vs Q E hr h => ?_))
  · obtain ⟨v, r, rfl, _⟩ := h
    rfl
  · refine ⟨_, (pss_cons (ps_match (pv 0)
        (pcs_cons (is := [1, 2]) scRg.nd (pp_seq rfl (pps_cons pp_cap (pps_cons pp_cap pps_nil))) (.cons ⟨rfl, .inl rfl, .inr rfl⟩ (.cons ⟨rfl, .inl rfl, .inr rfl⟩ .nil))
          (pss_one (ps_ret (pe_and (pe_call GSg hr rfl gSg kSg bSg .nil pass0 (pa_cons (pv 1) pa_nil)) (pe_and (pe_call GSg hr rfl gSg kSg bSg .nil pass0 (pa_cons (pv 2) pa_nil)) (pe_one (pe_cmpR op_le_str (pv 1) (pv 2) (nomark _))))))) pcs_nil))
        (pss_one (ps_ret pe_bl))), ?_⟩
    obtain ⟨v, r, rfl, hd, ⟨h1, h2, h3⟩, k⟩ := h
    obtain ⟨a, rfl, hq⟩ := dp_two hd
    refine ⟨_, rfl, a, _, rfl, hq, fun z => (z rfl).elim, fun _ => ?_⟩
    refine ⟨_, rfl, r.1, rfl, h1, fun H1 s1 => ⟨_, rfl, if_yes rfl ⟨_, rfl, r.2, rfl, h2, fun H2 s2 => ⟨_, rfl, if_yes rfl ⟨_, rfl, _, rfl, _, _, rfl, rfl, ?_⟩⟩⟩⟩⟩
    rw [lt_sg, decide_eq_false (by omega)]
    exact k _ (s1.trans s2)
end
end Qb
end PySem
namespace PySem
namespace Qb
open PySem.W PySem.Calls PyProof.Rows L2
section
variable {P : Program} {w : World} {K : Frag} {mg : Str → Option Value} {base : Heap}
theorem str_ok_sg {c : Nat} (h : c ∈ cs signsS) : PyData.strOk (sg c) = true := by
  have : ∀ c ∈ cs signsS, PyData.strOk (sg c) = true := by decide +kernel
  exact this c h
theorem sh_one {x : Str} (h : PyData.strOk x = true) : Sh 1 (.str x) := sh_mono (sh_str h) (by decide)
theorem sh_rg {r : Nat × Nat} (h1 : r.1 ∈ cs signsS) (h2 : r.2 ∈ cs signsS) : Sh 1 (rgD r) := sh_tup fun d m => by
  rcases List.mem_cons.mp m with rfl | m
  · exact sh_str (str_ok_sg h1)
  · rcases List.mem_singleton.mp m with rfl
    exact sh_str (str_ok_sg h2)
theorem sh_rgs {rs : List (Nat × Nat)} (h : ∀ r ∈ rs, r.1 ∈ cs signsS ∧ r.2 ∈ cs signsS ∧ r.1 ≤ r.2) : Sh 2 (.list (rs.map rgD)) := sh_lst fun d m => by
  obtain ⟨r, mr, rfl⟩ := List.mem_map.mp m
  exact sh_rg (h r mr).1 (h r mr).2.1
abbrev sPp : Stmt := top 14
abbrev nPp : List Str := ["piece", "sign", "ranges", "told"]
theorem scPp : FnScope nPp ["piece"] (defScope sPp) := ⟨rfl, rfl, rfl, by decide +kernel, rfl, by decide +kernel, by decide +kernel⟩
theorem has_Pp {f : Addr} {fd : FuncData} (F : Fun K "is_pattern_piece" "is_pattern_piece" sPp f fd) (g : mg "is_pattern_piece" = some (.ref f)) (B : Blt mg) (hSg : Has P w K mg base 1 "is_sign" ["text"] spSg) (hRg : Has P w K mg base 2 "is_range" ["told"] (spRg K)) :
    Has P w K mg base 3 "is_pattern_piece" ["piece"] (spPp K) := by
  obtain ⟨fSg, dSg, gSg, kSg, bSg, GSg⟩ := hSg
  obtain ⟨fRg, dRg, gRg, kRg, bRg, GRg⟩ := hRg
  refine has_of F g (F.binds (ps := ["piece"]) fun _ _ _ _ _ _ us hl => match us, hl with | [_], _ => rfl) (F.ok scPp (fun vs H Q E h => ?_) (fun cdv A outer s H vs Q E hr h => ?_))
  · obtain ⟨v, p, rfl, _⟩ := h
    rfl
  · refine ⟨_, (pss_cons (ps_match (pv 0)
        (pcs_cons (is := []) scPp.nd (pp_or (pf_cons (pp_seq rfl (pps_cons pp_lit pps_nil)) (pf_cons (pp_seq rfl (pps_cons pp_lit pps_nil)) pf_nil))) .nil
          (pss_one (ps_ret pe_bl))
        (pcs_cons (is := [1]) scPp.nd (pp_seq rfl (pps_cons pp_lit (pps_cons pp_cap pps_nil))) (.cons ⟨rfl, .inl rfl, .inr rfl⟩ .nil)
          (pss_one (ps_ret (pe_call GSg (hr.mono (by decide)) rfl gSg kSg bSg .nil pass0 (pa_cons (pv 1) pa_nil))))
        (pcs_cons (is := [2]) scPp.nd (pp_seq rfl (pps_cons pp_lit (pps_cons (pp_or (pf_cons pp_bool (pf_cons pp_bool pf_nil))) (pps_cons pp_cap pps_nil)))) (.cons ⟨rfl, .inl rfl, .inr rfl⟩ .nil)
          (pss_one (ps_ret (pe_and (pe_callB call_isi (by rfl) B.isi (by decide +kernel) (pa_cons (pv 2) (pa_cons (pe_bltn (v := .ty "list") (by rfl) B.list (by decide +kernel) rfl) pa_nil))) (pe_and (pe_cmpR (op_neD hr.units) (pv 2) (pe_lst pa_nil) (nomark _)) (pe_one (pe_callB (cr_all rfl) (by rfl) B.all (by decide +kernel) (pa_cons (pe_lc (own := [("told", 3)]) (g := gName 3) (tt := tYes) rfl scPp.nd (pi_list (pv 2)) (blkOk_by (N := nPp) (sc := defScope sPp) (by decide +kernel)) (fun _ _ _ _ _ => pg_name (i := 3) scPp.nd rfl (.inl rfl)) (fun _ _ _ _ _ => pts_nil) (fun _ _ _ _ _ => (pe_call GRg hr rfl gRg kRg bRg .nil pass0 (pa_cons (pv 3) pa_nil)))) pa_nil))))))) pcs_nil))))
        (pss_one (ps_ret pe_bl))), ?_⟩
    obtain ⟨v, p, rfl, hd, hg, hf, k⟩ := h
    have oth : ∀ {a xs} {n : Nat} {is : List Nat} {t : TS} {D : Ends} {σ : L2.St} {rest : List (List Nat × PatR × TS)}, SqT K H a xs → xs.length ≠ 1 → tCases rest (.ref a) D σ H → tCases ((is, rOr [rSeq K 1 [rLit "any"], rSeq K 1 [rLit "lot"]], t) :: rest) (.ref a) D σ H := fun hq ne q =>
      ⟨_, _, rfl, hq, fun _ => ⟨_, _, rfl, hq, fun _ => q, fun z => (ne z).elim⟩, fun z => (ne z).elim⟩
    cases p with
    | one c =>
      obtain ⟨a, rfl, hq⟩ := dp_two hd
      refine ⟨_, rfl, oth (n := 0) hq (by simp) (case_hit hq hit_lit ⟨_, rfl, c, rfl, hg, k⟩)⟩
    | any =>
      obtain ⟨a, xs, rfl, hq, all⟩ := dp_tup hd
      obtain ⟨rfl⟩ : xs = [.str "any"] := by
        cases all with
        | cons h1 t => cases t; obtain rfl := dp_str h1; rfl
      exact ⟨_, rfl, a, _, rfl, hq, fun z => (z rfl).elim, fun _ => ⟨"any", rfl, k H (Same.refl H)⟩⟩
    | lot =>
      obtain ⟨a, xs, rfl, hq, all⟩ := dp_tup hd
      obtain ⟨rfl⟩ : xs = [.str "lot"] := by
        cases all with
        | cons h1 t => cases t; obtain rfl := dp_str h1; rfl
      exact ⟨_, rfl, a, _, rfl, hq, fun z => (z rfl).elim, fun _ => ⟨"lot", rfl, a, _, rfl, hq, fun z => (z rfl).elim, fun _ => ⟨"lot", rfl, k H (Same.refl H)⟩⟩⟩
    | of no rs =>
      obtain ⟨a, x, y, rfl, hq, hx, hy⟩ := pc_three hd
      obtain ⟨b, ys, rfl, hb, all⟩ := dp_lst hy
      have ly := dpLen all
      rw [List.length_map] at ly
      have hl : rs.length ≤ 300 := hf
      refine ⟨_, rfl, oth (n := 0) hq (by simp) (case_miss hq (.inr (by simp)) ⟨a, _, rfl, hq, fun z => (z rfl).elim, fun _ => ⟨"of", rfl, ?_⟩⟩)⟩
      cases hx
      refine either_bool ?_
      refine ⟨_, rfl, .ref b, .ty "list", .type "list", .type "list", true, rfl, .ty _, ty_lst hb, kit_ty (by decide +kernel), _, rfl, if_yes rfl ?_⟩
      refine ⟨_, rfl, (by decide : 0 ≤ sizeLine), fun e ne => ?_⟩
      have s1 := same_upd (o := .lst []) ne
      refine ⟨.list (rs.map rgD), .list [], dp_same s1 hy, .lst (SqL.of upd_same) .nil, sh_ok (sh_rgs hg.2), by decide, _, rfl, ?_⟩
      rw [eqv_nil]
      refine if_yes (by cases rs with | nil => exact (hg.1 rfl).elim | cons r rs => rfl) ?_
      refine ⟨_, rfl, b, rfl, ⟨_, s1.seq hb⟩, fun D hD => lc_all (bs := rs.map fun _ => true) (s1.seq hb) hD (by rw [List.length_map, ly]) (by rw [ly]; omega) (fun i x b' H' Q' hx hb' s2 q => ?_) (fun H1 s2 q1 => ?_)⟩
      · obtain ⟨d, hdi, dp⟩ := dpAt' all hx
        rw [List.getElem?_map] at hdi hb'
        cases ep : rs[i]? with
        | none => rw [ep] at hdi; cases hdi
        | some r =>
          rw [ep] at hdi hb'
          obtain rfl := Option.some.inj hdi
          obtain rfl := Option.some.inj hb'
          exact ⟨rfl, _, rfl, _, r, rfl, dp_same (s1.trans s2) dp, hg.2 r (List.mem_of_getElem? ep), q⟩
      · refine ⟨D, _, rfl, q1, ?_⟩
        have z := k _ (s1.trans s2)
        rw [show (rs.map fun _ => true).all id = true by rw [List.all_eq_true]; intro x m; obtain ⟨r, _, rfl⟩ := List.mem_map.mp m; rfl]
        exact z
abbrev sPa : Stmt := top 13
abbrev nPa : List Str := ["pattern", "piece"]
theorem scPa : FnScope nPa ["pattern"] (defScope sPa) := ⟨rfl, rfl, rfl, by decide +kernel, rfl, by decide +kernel, by decide +kernel⟩
theorem has_Pa {f : Addr} {fd : FuncData} (F : Fun K "is_pattern" "is_pattern" sPa f fd) (g : mg "is_pattern" = some (.ref f)) (B : Blt mg) (hPp : Has P w K mg base 3 "is_pattern_piece" ["piece"] (spPp K)) :
    FnOk P w K mg base CX0 4 f fd ["pattern"] (spPa K) := by
  obtain ⟨fPp, dPp, gPp, kPp, bPp, GPp⟩ := hPp
  refine (F.ok scPa (fun vs H Q E h => ?_) (fun cdv A outer s H vs Q E hr h => ?_))
  · obtain ⟨v, ps, rfl, _⟩ := h
    rfl
  · refine ⟨_, (pss_one (ps_ret (pe_callB (cr_all rfl) (by rfl) B.all (by decide +kernel) (pa_cons (pe_lc (own := [("piece", 1)]) (g := gName 1) (tt := tYes) rfl scPa.nd (pi_list (pv 0)) (blkOk_by (N := nPa) (sc := defScope sPa) (by decide +kernel)) (fun _ _ _ _ _ => pg_name (i := 1) scPa.nd rfl (.inl rfl)) (fun _ _ _ _ _ => pts_nil) (fun _ _ _ _ _ => (pe_call GPp hr rfl gPp kPp bPp .nil pass0 (pa_cons (pv 1) pa_nil)))) pa_nil)))), ?_⟩
    obtain ⟨v, ps, rfl, hd, hl, hg, k⟩ := h
    obtain ⟨a, xs, rfl, hq, all⟩ := dp_lst hd
    have lx := dpLen all
    rw [List.length_map] at lx
    refine ⟨_, rfl, a, rfl, ⟨_, hq⟩, fun D hD => lc_all (bs := ps.map fun _ => true) hq hD (by rw [List.length_map, lx]) (by rw [lx]; exact hl) (fun i x b H' Q' hx hb s1 q => ?_) (fun H1 s1 q1 => ?_)⟩
    · obtain ⟨d, hdi, dp⟩ := dpAt' all hx
      rw [List.getElem?_map] at hdi hb
      cases ep : ps[i]? with
      | none => rw [ep] at hdi; cases hdi
      | some p =>
        rw [ep] at hdi hb
        obtain rfl := Option.some.inj hdi
        obtain rfl := Option.some.inj hb
        have z := hg p (List.mem_of_getElem? ep)
        exact ⟨rfl, _, rfl, _, p, rfl, dp_same s1 dp, z.1, z.2, q⟩
    · refine ⟨D, _, rfl, q1, ?_⟩
      rw [show (ps.map fun _ => true).all id = true by rw [List.all_eq_true]; intro x m; obtain ⟨r, _, rfl⟩ := List.mem_map.mp m; rfl]
      exact k _ s1
abbrev sLo : Stmt := top 19
abbrev nLo : List Str := ["row", "at", "sign"]
theorem scLo : FnScope nLo ["row", "at", "sign"] (defScope sLo) := ⟨rfl, rfl, rfl, by decide +kernel, rfl, by decide +kernel, by decide +kernel⟩
theorem has_Lo {f : Addr} {fd : FuncData} (F : Fun K "is_loose" "is_loose" sLo f fd) (g : mg "is_loose" = some (.ref f)) (B : Blt mg)  :
    Has P w K mg base 1 "is_loose" ["row", "at", "sign"] (spLo K) := by
  refine has_of F g (F.binds (ps := ["row", "at", "sign"]) fun _ _ _ _ _ _ us hl => match us, hl with | [_, _, _], _ => rfl) (F.ok scLo (fun vs H Q E h => ?_) (fun cdv A outer s H vs Q E hr h => ?_))
  · obtain ⟨v, row, i, c, rfl, _⟩ := h
    rfl
  · refine ⟨_, (pss_one (ps_ret (pe_and (pe_cmpR op_lt (pv 1) (pe_callB call_len_seq (by rfl) B.len PySem.boot_len (pa_cons (pv 0) pa_nil)) (nomark _)) (pe_and (pe_cmpR op_eq (pe_ix ix_tup (pe_ix ix_list (pv 0) (pv 1) (fun _ _ => rfl)) pe_int (fun _ _ => rfl)) (pv 2) (nomark _)) (pe_one (pe_cmpR op_ne (pe_ix ix_tup (pe_ix ix_list (pv 0) (pv 1) (fun _ _ => rfl)) pe_int (fun _ _ => rfl)) pe_str (nomark _))))))), ?_⟩
    obtain ⟨v, row, i, ch, rfl, hd, k⟩ := h
    obtain ⟨a, xs, rfl, hq, lx, all, at_⟩ := row_at hd
    have done : ∀ b, looseAt row i ch = b → Q (.bl b) H := fun b e => by
      rw [← e]
      exact k H (Same.refl H)
    refine ⟨_, rfl, _, rfl, a, xs, rfl, .inl hq, _, _, rfl, rfl, _, rfl, ?_⟩
    rw [lx]
    by_cases hi : i < row.length
    · obtain ⟨t, hx, ht⟩ := at_ i row[i] (List.getElem?_eq_getElem hi)
      have e0 : looseAt row i ch = loose row[i] ch := by
        unfold looseAt
        rw [List.getElem?_eq_getElem hi]
      rw [decide_eq_true (show (i : Int) < (row.length : Nat) by omega)]
      refine if_yes rfl ⟨_, rfl, _, rfl, a, xs, _, _, rfl, rfl, hq, atI_nat hx, t, _, _, _, rfl, rfl, ht, rfl, _, rfl, rfl, _, rfl, ?_⟩
      rw [show decide (V.str (sg row[i].1) = V.str (sg ch)) = (row[i].1 == ch) from eq_sg rfl]
      refine if_by (fun e1 => ⟨_, rfl, _, rfl, a, xs, _, _, rfl, rfl, hq, atI_nat hx, t, _, _, _, rfl, rfl, ht, rfl, rfl, ?_⟩) (fun e1 => done _ ?_)
      · refine done _ ?_
        rw [e0]
        unfold loose
        rw [e1]
        by_cases hm : row[i].2 = "firm"
        · rw [hm]; simp
        · rw [decide_eq_false (fun z => hm (V.str.inj z))]
          simpa using hm
      · rw [e0]
        unfold loose
        rw [e1]
        rfl
    · rw [decide_eq_false (show ¬ (i : Int) < (row.length : Nat) by omega)]
      refine if_no rfl (done _ ?_)
      unfold looseAt
      rw [List.getElem?_eq_none (by omega)]
end
end Qb
end PySem
namespace PySem
namespace Qb
open PySem.W PySem.Calls PyProof.Rows L2
theorem bg_yes {row : List Rw} {i : Nat} (h : looseAt row (i + 1) 33 = true) : ((i : Nat) : Int) + 2 = ((bg row i : Nat) : Int) := by
  unfold bg
  rw [if_pos h]
  rfl
theorem bg_no {row : List Rw} {i : Nat} (h : looseAt row (i + 1) 33 = false) : ((i : Nat) : Int) + 1 = ((bg row i : Nat) : Int) := by
  unfold bg
  rw [h, if_neg (by decide)]
  rfl
def spSt (K : Frag) : Sp := fun vs H Q _ => ∃ (v : V) (r : Rw), vs = [v] ∧ Dp K H v (rwD r) ∧ ∀ H' x, Same H H' → Dp K H' x (single r).d → Q x H'
def spOt (K : Frag) : Sp := fun vs H Q _ => ∃ (v : V) (row : List Rw), vs = [v] ∧ Dp K H v (rowD row) ∧ row.length ≤ 300 ∧
  ∀ (H' : Hp) (t r : Addr) (ys : List V), Same H H' → H t = none → H r = none → H' t = some (.tup [.str "of", .bl (looseAt row 0 33), .ref r]) → H' r = some (.lst ys) → DpAll K H' ys ((rg (row.drop (if looseAt row 0 33 = true then 1 else 0))).map rgD) → Q (.ref t) H'
def spOe (K : Frag) : Sp := fun vs H Q _ => ∃ (v : V) (row : List Rw) (i : Nat), vs = [v, .int (i : Nat)] ∧ Dp K H v (rowD row) ∧ row.length ≤ 300 ∧ i < row.length ∧ ∀ H', Same H H' → Q (.int ((endAt row i).getD i : Nat)) H'
section
variable {P : Program} {w : World} {K : Frag} {mg : Str → Option Value} {base : Heap}
abbrev sSt : Stmt := top 18
abbrev nSt : List Str := ["signed", "sign", "mark"]
theorem scSt : FnScope nSt ["signed"] (defScope sSt) := ⟨rfl, rfl, rfl, by decide +kernel, rfl, by decide +kernel, by decide +kernel⟩
theorem has_St {f : Addr} {fd : FuncData} (F : Fun K "sign_told" "sign_told" sSt f fd) (g : mg "sign_told" = some (.ref f)) (B : Blt mg) (W : Wrt K w mg) :
    Has P w K mg base 1 "sign_told" ["signed"] (spSt K) := by
  refine has_of F g (F.binds (ps := ["signed"]) fun _ _ _ _ _ _ us hl => match us, hl with | [_], _ => rfl) (F.ok scSt (fun vs H Q E h => ?_) (fun cdv A outer s H vs Q E hr h => ?_))
  · obtain ⟨v, p, rfl, _⟩ := h
    rfl
  · obtain ⟨d, es, n, L, An, gS, D, ns, hL, hA⟩ := W.special
    refine ⟨_, (pss_cons (ps_asg (pv 0) (pg_tup rfl (pgs_cons (pg_name (i := 1) scSt.nd rfl (.inl rfl)) (pgs_cons (pg_name (i := 2) scSt.nd rfl (.inl rfl)) pgs_nil))))
        (pss_cons (ps_if (PW.pt (pw_and (pt_cmpR op_ne (pv 2) pe_str (nomark _)) (pw_and1 (pt_cmpR (op_in_kd D) (pv 1) (pe_glob (v := .ref d) (by rfl) gS rfl) (by rfl))))) (pss_one (ps_ret (pe_ix ix_kdict (pe_glob (v := .ref d) (by rfl) gS rfl) (pv 1) (fun _ _ => rfl)))) pss_nil)
        (pss_one (ps_ret (pe_tup (pa_cons pe_str (pa_cons (pv 1) pa_nil))))))), ?_⟩
    obtain ⟨v, r, rfl, hd, k⟩ := h
    obtain ⟨a, rfl, hq⟩ := dp_two hd
    refine ⟨_, rfl, a, _, rfl, hq, rfl, _, _, rfl, _, _, rfl, rfl, _, rfl, rfl, _, rfl, ?_⟩
    have one : ∀ p, H p = none → Dp K (L2.upd H p (.tup [.str "one", .str (sg r.1)])) (.ref p) (Pt.one r.1).d := fun p np => .tup (SqT.of upd_same) (.cons (.str _) (.cons (.str _) .nil))
    by_cases hm : r.2 = "firm"
    · have e : single r = .one r.1 := by
        unfold single loose
        rw [hm]
        simp
      rw [hm]
      refine if_no (by simp) ⟨_, rfl, (by decide : 2 ≤ sizeLine), fun p np => k _ _ (same_upd np) ?_⟩
      rw [e]
      exact one p np
    · refine if_yes (by rw [decide_eq_false (fun z => hm (V.str.inj z))]; rfl) ⟨_, rfl, sg r.1, _, rfl, rfl, ns r.1, _, rfl, ?_⟩
      have hl : (r.2 != "firm") = true := by simpa using hm
      by_cases h42 : r.1 = 42
      · have e : single r = .lot := by
          unfold single loose
          rw [h42, hl]
          rfl
        rw [if_pos h42]
        refine if_yes rfl ⟨_, rfl, d, sg r.1, .ref L, rfl, rfl, ⟨es, n, .ref L, D.at_, D.lit, (ns r.1).trans (by rw [if_pos h42]), rfl⟩, k H _ (Same.refl H) ?_⟩
        rw [e]
        exact .tup (hL H) (.cons (.str _) .nil)
      · rw [if_neg h42]
        by_cases h63 : r.1 = 63
        · have e : single r = .any := by
            unfold single loose
            rw [h63, hl]
            rfl
          rw [if_pos h63]
          refine if_yes rfl ⟨_, rfl, d, sg r.1, .ref An, rfl, rfl, ⟨es, n, .ref An, D.at_, D.lit, (ns r.1).trans (by rw [if_neg h42, if_pos h63]), rfl⟩, k H _ (Same.refl H) ?_⟩
          rw [e]
          exact .tup (hA H) (.cons (.str _) .nil)
        · have e : single r = .one r.1 := by
            unfold single loose
            rw [beq_eq_false_iff_ne.mpr h42, beq_eq_false_iff_ne.mpr h63]
            rfl
          rw [if_neg h63]
          refine if_no rfl ⟨_, rfl, (by decide : 2 ≤ sizeLine), fun p np => k _ _ (same_upd np) ?_⟩
          rw [e]
          exact one p np
abbrev sOe : Stmt := top 20
abbrev nOe : List Str := ["row", "at", "first", "stop"]
theorem scOe : FnScope nOe ["row", "at"] (defScope sOe) := ⟨rfl, rfl, rfl, by decide +kernel, rfl, by decide +kernel, by decide +kernel⟩
theorem has_Oe {f : Addr} {fd : FuncData} (F : Fun K "of_end" "of_end" sOe f fd) (g : mg "of_end" = some (.ref f)) (B : Blt mg) (hLo : Has P w K mg base 1 "is_loose" ["row", "at", "sign"] (spLo K)) :
    Has P w K mg base 2 "of_end" ["row", "at"] (spOe K) := by
  obtain ⟨fLo, dLo, gLo, kLo, bLo, GLo⟩ := hLo
  refine has_of F g (F.binds (ps := ["row", "at"]) fun _ _ _ _ _ _ us hl => match us, hl with | [_, _], _ => rfl) (F.ok scOe (fun vs H Q E h => ?_) (fun cdv A outer s H vs Q E hr h => ?_))
  · obtain ⟨v, row, i, rfl, _⟩ := h
    rfl
  · refine ⟨_, (pss_cons (ps_if (pt_not (pt_val (pe_call GLo hr rfl gLo kLo bLo .nil pass0 (pa_cons (pv 0) (pa_cons (pv 1) (pa_cons pe_str pa_nil)))))) (pss_one (ps_ret (pv 1))) pss_nil)
        (pss_cons (ps_set (i := 2) scOe.nd rfl (.inl rfl) (pe_ifExp (pt_val (pe_call GLo hr rfl gLo kLo bLo .nil pass0 (pa_cons (pv 0) (pa_cons (pe_op op_add (pv 1) pe_int) (pa_cons pe_str pa_nil))))) (pe_op op_add (pv 1) pe_int) (pe_op op_add (pv 1) pe_int)))
        (pss_cons (ps_for PassesOwn.never rfl (pi_range2 (by rfl) B.range (pa_cons (pe_op op_add (pv 2) pe_int) (pa_cons (pe_callB call_len_seq (by rfl) B.len PySem.boot_len (pa_cons (pv 0) pa_nil)) pa_nil))) (pg_name (i := 3) scOe.nd rfl (.inl rfl))
          (pss_one (ps_if (pt_val (pe_call GLo hr rfl gLo kLo bLo .nil pass0 (pa_cons (pv 0) (pa_cons (pv 3) (pa_cons pe_str pa_nil))))) (pss_one (ps_ret (pv 3))) pss_nil)))
        (pss_one (ps_ret (pv 1)))))), ?_⟩
    obtain ⟨v, row, i, rfl, hd, hl, hi, k⟩ := h
    refine ⟨_, rfl, _, rfl, v, row, i, 91, rfl, hd, fun H1 s1 => ⟨_, rfl, ?_⟩⟩
    by_cases h91 : looseAt row i 91 = true
    · rw [h91]
      have eb : endAt row i = nd row i := by
        unfold endAt
        rw [if_pos h91]
      have hb := bg_ge row i
      refine if_no rfl ⟨_, rfl, _, rfl, _, _, rfl, rfl, v, row, i + 1, 33, rfl, dp_same s1 hd, fun H2 s2 => ⟨_, rfl, if_by (fun e33 => ⟨_, rfl, _, _, rfl, rfl, ?_⟩) (fun e33 => ⟨_, rfl, _, _, rfl, rfl, ?_⟩)⟩⟩
      all_goals (dsimp only; first | rw [bg_yes e33] | rw [bg_no e33])
      all_goals
        (have s3 := s1.trans s2
         obtain ⟨a, xs, rfl, hq, lx, all, at_⟩ := row_at (dp_same s3 hd)
         refine ⟨_, rfl, _, _, rfl, rfl, _, rfl, a, xs, rfl, .inl hq, _, _, rfl, ⟨by omega, by omega, by omega, by omega⟩, ?_⟩
         have en : (((xs.length : Nat) : Int) - (((bg row i : Nat) : Int) + 1)).toNat = row.length - (bg row i + 1) := by omega
         rw [en]
         refine for_range (lo := ((bg row i : Nat) : Int) + 1) (n := row.length - (bg row i + 1)) (fun j σ H' => (∃ x, σ = [some (.ref a), some (.int i), some (.int (bg row i : Nat)), x]) ∧ Same H H' ∧ ∀ k, bg row i + 1 ≤ k → k < bg row i + 1 + j → looseAt row k 93 = false) ⟨⟨_, rfl⟩, s3, fun k h1 h2 => by omega⟩ (fun j σ H' hj e => ?_) (fun σ H' e => ?_)
         · obtain ⟨⟨x, rfl⟩, s4, nx⟩ := e
           refine ⟨_, rfl, _, rfl, .ref a, row, bg row i + 1 + j, 93, by rw [show (((bg row i + 1 + j : Nat)) : Int) = ((bg row i : Nat) : Int) + 1 + (j : Nat) by omega]; rfl, dp_same s4 hd, fun H5 s5 => ⟨_, rfl, if_by (fun e => ?_) (fun e => ?_)⟩⟩
           · refine ⟨_, rfl, ?_⟩
             have z := k _ (s4.trans s5)
             rw [eb, show nd row i = some (bg row i + 1 + j) from scan_eq (by omega) (by omega) e fun k h1 h2 => nx k h1 h2] at z
             rw [show ((bg row i : Nat) : Int) + 1 + (j : Nat) = ((bg row i + 1 + j : Nat) : Int) by omega]
             exact z
           · refine ⟨⟨_, rfl⟩, s4.trans s5, fun k h1 h2 => ?_⟩
             by_cases hk : k = bg row i + 1 + j
             · rw [hk]; exact e
             · exact nx k h1 (by omega)
         · obtain ⟨⟨x, rfl⟩, s4, nx⟩ := e
           refine ⟨_, rfl, ?_⟩
           have z := k _ s4
           rw [eb, show nd row i = none from scan_eq_none fun k h1 h2 => nx k h1 h2] at z
           exact z)
    · rw [show looseAt row i 91 = false by simpa using h91]
      refine if_yes rfl ⟨_, rfl, ?_⟩
      have z := k _ s1
      unfold endAt at z
      rw [if_neg h91] at z
      exact z
end
end Qb
end PySem
namespace PySem
namespace Qb
open PySem.W PySem.Calls PyProof.Rows L2
/-! # a list that is being made, and its things -/
def Bld (K : Frag) (H H' : Hp) (R : Addr) (ds : List PyData) : Prop := H R = none ∧ Same H (hide H' R) ∧ ∃ ys, H' R = some (.lst ys) ∧ DpAll K (hide H' R) ys ds
theorem hide_none {H : Hp} {R : Addr} : hide H R R = none := by
  unfold hide
  rw [if_pos rfl]
theorem Bld.new {K : Frag} {H : Hp} {R : Addr} (n : H R = none) : Bld K H (L2.upd H R (.lst [])) R [] := ⟨n, hide_of (same_upd n) n, [], upd_same, .nil⟩
theorem Bld.new2 {K : Frag} {H H1 : Hp} {R : Addr} (s : Same H H1) (n : H1 R = none) : Bld K H (L2.upd H1 R (.lst [])) R [] := ⟨s.free n, hide_of (s.trans (same_upd n)) (s.free n), [], upd_same, .nil⟩
theorem Bld.same {K : Frag} {H H1 H2 : Hp} {R : Addr} {ds : List PyData} (b : Bld K H H1 R ds) (s : Same H1 H2) : Bld K H H2 R ds := by
  obtain ⟨n, s0, ys, h, a⟩ := b
  exact ⟨n, s0.trans (hide_mono s), ys, s _ _ h, dpAll_same (hide_mono s) a⟩
theorem Bld.put {K : Frag} {H H1 : Hp} {R : Addr} {ds : List PyData} (b : Bld K H H1 R ds) : ∃ ys, H1 R = some (.lst ys) ∧ ys.length = ds.length ∧ ∀ v d, Dp K (hide H1 R) v d → Bld K H (L2.upd H1 R (.lst (ys ++ [v]))) R (ds ++ [d]) := by
  obtain ⟨n, s0, ys, h, a⟩ := b
  exact ⟨ys, h, dpLen a, fun v d hd => ⟨n, s0.trans hide_upd, _, upd_same, dpApp (dpAll_same hide_upd a) (.cons (dp_same hide_upd hd) .nil)⟩⟩
theorem Bld.base {K : Frag} {H H1 : Hp} {R : Addr} {ds : List PyData} (b : Bld K H H1 R ds) : Same H H1 := b.2.1.trans hide_same
theorem Bld.dp {K : Frag} {H H1 : Hp} {R : Addr} {ds : List PyData} (b : Bld K H H1 R ds) : Dp K H1 (.ref R) (.list ds) := by
  obtain ⟨n, s0, ys, h, a⟩ := b
  exact .lst (SqL.of h) (dpAll_same hide_same a)
theorem Bld.ne {K : Frag} {H H1 : Hp} {R T : Addr} {ds : List PyData} (b : Bld K H H1 R ds) (n : H1 T = none) : T ≠ R := by
  obtain ⟨_, s0, ys, h, a⟩ := b
  intro e
  rw [e, h] at n
  cases n
/-- a new tuple of two texts, for a list that is being made -/
theorem Bld.two {K : Frag} {H H1 : Hp} {R T : Addr} {ds : List PyData} (b : Bld K H H1 R ds) (n : H1 T = none) (x y : Str) : Dp K (hide (L2.upd H1 T (.tup [.str x, .str y])) R) (.ref T) (.tuple [.str x, .str y]) :=
  .tup (SqT.of (hide_ne upd_same (b.ne n))) (.cons (.str _) (.cons (.str _) .nil))
section
variable {P : Program} {w : World} {K : Frag} {mg : Str → Option Value} {base : Heap}
theorem of_row {row : List Rw} {i : Nat} (hi : i < row.length) : looseAt row (i + 1) 45 = false ∨ (looseAt row (i + 1) 45 = true ∧ ¬ i + 2 < row.length) ∨ (looseAt row (i + 1) 45 = true ∧ i + 2 < row.length ∧ ∃ c, row[i + 2]? = some c ∧ ¬ row[i].1 ≤ c.1) ∨ (looseAt row (i + 1) 45 = true ∧ i + 2 < row.length ∧ ∃ c, row[i + 2]? = some c ∧ row[i].1 ≤ c.1) := by
  cases e : looseAt row (i + 1) 45 with
  | false => exact .inl rfl
  | true =>
    by_cases h : i + 2 < row.length
    · by_cases z : row[i].1 ≤ row[i + 2].1
      · exact .inr (.inr (.inr ⟨rfl, h, _, List.getElem?_eq_getElem h, z⟩))
      · exact .inr (.inr (.inl ⟨rfl, h, _, List.getElem?_eq_getElem h, z⟩))
    · exact .inr (.inl ⟨rfl, h⟩)
abbrev sOt : Stmt := top 21
abbrev nOt : List Str := ["row", "says_no", "at", "ranges"]
theorem scOt : FnScope nOt ["row"] (defScope sOt) := ⟨rfl, rfl, rfl, by decide +kernel, rfl, by decide +kernel, by decide +kernel⟩
theorem has_Ot {f : Addr} {fd : FuncData} (F : Fun K "of_told" "of_told" sOt f fd) (g : mg "of_told" = some (.ref f)) (B : Blt mg) (hLo : Has P w K mg base 1 "is_loose" ["row", "at", "sign"] (spLo K)) :
    Has P w K mg base 2 "of_told" ["row"] (spOt K) := by
  obtain ⟨fLo, dLo, gLo, kLo, bLo, GLo⟩ := hLo
  refine has_of F g (F.binds (ps := ["row"]) fun _ _ _ _ _ _ us hl => match us, hl with | [_], _ => rfl) (F.ok scOt (fun vs H Q E h => ?_) (fun cdv A outer s H vs Q E hr h => ?_))
  · obtain ⟨v, row, rfl, _⟩ := h
    rfl
  · refine ⟨_, (pss_cons (ps_set (i := 1) scOt.nd rfl (.inl rfl) (pe_call GLo hr rfl gLo kLo bLo .nil pass0 (pa_cons (pv 0) (pa_cons pe_int (pa_cons pe_str pa_nil)))))
        (pss_cons (ps_set (i := 2) scOt.nd rfl (.inl rfl) (pe_ifExp (pt_val (pv 1)) pe_int pe_int))
        (pss_cons (ps_set (i := 3) scOt.nd rfl (.inl rfl) (pe_lst pa_nil))
        (pss_cons (ps_while PassesOwn.never (pt_cmpR op_lt (pv 2) (pe_callB call_len_seq (by rfl) B.len PySem.boot_len (pa_cons (pv 0) pa_nil)) (nomark _)) (pss_one (ps_if (PW.pt (pw_and (pt_val (pe_call GLo hr rfl gLo kLo bLo .nil pass0 (pa_cons (pv 0) (pa_cons (pe_op op_add (pv 2) pe_int) (pa_cons pe_str pa_nil))))) (pw_and (pt_cmpR op_lt (pe_op op_add (pv 2) pe_int) (pe_callB call_len_seq (by rfl) B.len PySem.boot_len (pa_cons (pv 0) pa_nil)) (nomark _)) (pw_and1 (pt_cmpR op_ge_str (pe_ix ix_tup (pe_ix ix_list (pv 0) (pe_op op_add (pv 2) pe_int) (fun _ _ => rfl)) pe_int (fun _ _ => rfl)) (pe_ix ix_tup (pe_ix ix_list (pv 0) (pv 2) (fun _ _ => rfl)) pe_int (fun _ _ => rfl)) (nomark _)))))) (pss_cons (ps_expr (pe_bm PySem.F.plainAttrs_list PySem.F.slot_list_append PySem.F.type_list_append mt_append (pv 3) (pa_cons (pe_tup (pa_cons (pe_ix ix_tup (pe_ix ix_list (pv 0) (pv 2) (fun _ _ => rfl)) pe_int (fun _ _ => rfl)) (pa_cons (pe_ix ix_tup (pe_ix ix_list (pv 0) (pe_op op_add (pv 2) pe_int) (fun _ _ => rfl)) pe_int (fun _ _ => rfl)) pa_nil))) pa_nil)))
            (pss_one (ps_aug (i := 2) scOt.nd rfl (.inl rfl) pe_int ip_add))) (pss_cons (ps_expr (pe_bm PySem.F.plainAttrs_list PySem.F.slot_list_append PySem.F.type_list_append mt_append (pv 3) (pa_cons (pe_tup (pa_cons (pe_ix ix_tup (pe_ix ix_list (pv 0) (pv 2) (fun _ _ => rfl)) pe_int (fun _ _ => rfl)) (pa_cons (pe_ix ix_tup (pe_ix ix_list (pv 0) (pv 2) (fun _ _ => rfl)) pe_int (fun _ _ => rfl)) pa_nil))) pa_nil)))
            (pss_one (ps_aug (i := 2) scOt.nd rfl (.inl rfl) pe_int ip_add))))))
        (pss_one (ps_ret (pe_tup (pa_cons pe_str (pa_cons (pv 1) (pa_cons (pv 3) pa_nil)))))))))), ?_⟩
    obtain ⟨v, row, rfl, hd, hl, k⟩ := h
    refine ⟨_, rfl, v, row, 0, 33, rfl, hd, fun H1 s1 => ?_⟩
    obtain ⟨i0, hi0⟩ : ∃ i0 : Nat, i0 = if looseAt row 0 33 = true then 1 else 0 := ⟨_, rfl⟩
    rw [← hi0] at k
    have hv : (i0 : Nat) ≤ 1 := by rw [hi0]; split <;> omega
    refine ⟨_, rfl, _, rfl, if_by (fun e33 => ?_) (fun e33 => ?_)⟩
    all_goals
      refine ⟨(by decide : 0 ≤ sizeLine), fun R nR => ?_⟩
      have b0 : Bld K H (L2.upd H1 R (.lst [])) R [] := Bld.new2 s1 nR
      refine while_n (fun m σ H' => ∃ (i : Nat) (pre : List (Nat × Nat)), σ = [some v, some (.bl (looseAt row 0 33)), some (.int i), some (.ref R)] ∧ m = row.length + 3 - i ∧ i ≤ row.length + 2 ∧ pre.length ≤ i ∧ Bld K H H' R (pre.map rgD) ∧ pre ++ rg (row.drop i) = rg (row.drop i0)) (row.length + 3 - i0) ⟨i0, [], by first | (rw [hi0, if_pos e33]; rfl) | (rw [hi0, e33, if_neg (by decide)]; rfl), rfl, by omega, Nat.zero_le _, b0, rfl⟩ (fun m σ H' e => ?_)
      obtain ⟨i, pre, rfl, rfl, hi2, hp, b, tot⟩ := e
      obtain ⟨a, xs, rfl, hq, lx, all, at_⟩ := row_at (dp_same b.base hd)
      refine ⟨_, rfl, _, rfl, a, xs, rfl, .inl hq, _, _, rfl, rfl, _, rfl, if_by (fun e1 => ?_) (fun e1 => ?_)⟩
      · have hi : i < row.length := by have := of_decide_eq_true e1; omega
        obtain ⟨t, hx, ht⟩ := at_ i row[i] (List.getElem?_eq_getElem hi)
        refine ⟨fun σ' H' => ∃ m', m' < row.length + 3 - i ∧ ∃ (i : Nat) (pre : List (Nat × Nat)), σ' = [some (.ref a), some (.bl (looseAt row 0 33)), some (.int i), some (.ref R)] ∧ m' = row.length + 3 - i ∧ i ≤ row.length + 2 ∧ pre.length ≤ i ∧ Bld K H H' R (pre.map rgD) ∧ pre ++ rg (row.drop i) = rg (row.drop i0), fun σ' H' z => z, ?_⟩
        refine ⟨_, rfl, _, rfl, _, _, rfl, rfl, .ref a, row, i + 1, 45, rfl, dp_same b.base hd, fun H2 s2 => ⟨_, rfl, ?_⟩⟩
        have hq2 := s2.seq hq
        have ht2 := sqT_same s2 ht
        have b2 := b.same s2
        rcases of_row hi with e2 | ⟨e2, e3⟩ | ⟨e2, e3, c, hc, e4⟩ | ⟨e2, e3, c, hc, e4⟩
        rotate_left 3
        · obtain ⟨t3, hx3, ht3⟩ := at_ (i + 2) c hc
          refine if_yes e2 ⟨_, rfl, _, _, rfl, rfl, _, rfl, a, xs, rfl, .inl hq2, _, _, rfl, rfl, _, rfl, if_yes (decide_eq_true (by omega)) ?_⟩
          refine ⟨_, rfl, _, rfl, _, _, rfl, rfl, a, xs, _, _, rfl, rfl, hq2, atI_nat (j := i + 2) hx3, t3, _, _, _, rfl, rfl, sqT_same s2 ht3, rfl, _, rfl, _, rfl, a, xs, _, _, rfl, rfl, hq2, atI_nat hx, t, _, _, _, rfl, rfl, ht2, rfl, _, _, rfl, rfl, _, rfl, ?_⟩
          rw [lt_sg, decide_eq_false (by omega)]
          refine if_yes rfl ?_
          obtain ⟨ys, hy, ly, _⟩ := b2.put
          refine ⟨_, rfl, .inl ⟨rfl, _, SqL.of hy⟩, _, rfl, _, rfl, a, xs, _, _, rfl, rfl, hq2, atI_nat hx, t, _, _, _, rfl, rfl, ht2, rfl, _, rfl, _, rfl, _, _, rfl, rfl, a, xs, _, _, rfl, rfl, hq2, atI_nat (j := i + 2) hx3, t3, _, _, _, rfl, rfl, sqT_same s2 ht3, rfl, (by decide : 2 ≤ sizeLine), fun T nT => ?_⟩
          obtain ⟨ys', hy', ly', put⟩ := (b2.same (same_upd (o := .tup [.str (sg row[i].1), .str (sg c.1)]) nT)).put
          refine ⟨R, ys', _, rfl, rfl, hy', ?_, _, rfl, _, _, rfl, rfl, _, ?_, i + 3, pre ++ [(row[i].1, c.1)], rfl, rfl, by omega, by rw [List.length_append]; show _ + 1 ≤ _; omega, ?_, ?_⟩
          · rw [ly', List.length_map, sizeLine_eq]; omega
          · omega
          · rw [List.map_append]
            exact put _ _ (b2.two nT _ _)
          · rw [← tot, rg_far (List.getElem?_eq_getElem hi) hc e2 e4]
            simp
        all_goals
          have nr : looseAt row (i + 1) 45 = true → ∀ c, row[i + 2]? = some c → ¬ row[i].1 ≤ c.1 := by
            first
            | exact fun z => absurd (e2.symm.trans z) Bool.false_ne_true
            | (intro z c hc; exact absurd (List.getElem?_eq_some_iff.mp hc).1 e3)
            | (intro z c' hc'; rw [hc] at hc'; obtain rfl := Option.some.inj hc'; exact e4)
          first
          | refine if_no e2 (if_no rfl ?_)
          | refine if_yes e2 ⟨_, rfl, _, _, rfl, rfl, _, rfl, a, xs, rfl, .inl hq2, _, _, rfl, rfl, _, rfl, if_no (decide_eq_false (by omega)) (if_no rfl ?_)⟩
          | (obtain ⟨t3, hx3, ht3⟩ := at_ (i + 2) c hc
             refine if_yes e2 ⟨_, rfl, _, _, rfl, rfl, _, rfl, a, xs, rfl, .inl hq2, _, _, rfl, rfl, _, rfl, if_yes (decide_eq_true (by omega)) ?_⟩
             refine ⟨_, rfl, _, rfl, _, _, rfl, rfl, a, xs, _, _, rfl, rfl, hq2, atI_nat (j := i + 2) hx3, t3, _, _, _, rfl, rfl, sqT_same s2 ht3, rfl, _, rfl, _, rfl, a, xs, _, _, rfl, rfl, hq2, atI_nat hx, t, _, _, _, rfl, rfl, ht2, rfl, _, _, rfl, rfl, _, rfl, ?_⟩
             rw [lt_sg, decide_eq_true (by omega)]
             refine if_no rfl ?_)
          obtain ⟨ys, hy, ly, _⟩ := b2.put
          refine ⟨_, rfl, .inl ⟨rfl, _, SqL.of hy⟩, _, rfl, _, rfl, a, xs, _, _, rfl, rfl, hq2, atI_nat hx, t, _, _, _, rfl, rfl, ht2, rfl, _, rfl, _, rfl, a, xs, _, _, rfl, rfl, hq2, atI_nat hx, t, _, _, _, rfl, rfl, ht2, rfl, (by decide : 2 ≤ sizeLine), fun T nT => ?_⟩
          obtain ⟨ys', hy', ly', put⟩ := (b2.same (same_upd (o := .tup [.str (sg row[i].1), .str (sg row[i].1)]) nT)).put
          refine ⟨R, ys', _, rfl, rfl, hy', ?_, _, rfl, _, _, rfl, rfl, _, ?_, i + 1, pre ++ [(row[i].1, row[i].1)], rfl, rfl, by omega, by rw [List.length_append]; show _ + 1 ≤ _; omega, ?_, ?_⟩
          · rw [ly', List.length_map, sizeLine_eq]; omega
          · omega
          · rw [List.map_append]
            exact put _ _ (b2.two nT _ _)
          · rw [← tot, rg_near (List.getElem?_eq_getElem hi) nr]
            simp
      · have hi : row.length ≤ i := by have := of_decide_eq_false e1; omega
        rw [rg_end hi, List.append_nil] at tot
        refine ⟨_, rfl, _, rfl, (by decide : 3 ≤ sizeLine), fun T nT => ?_⟩
        have nT0 := b.base.free nT
        have sT := same_upd (o := .tup [.str "of", .bl (looseAt row 0 33), .ref R]) nT
        have bb := b.base
        obtain ⟨n0, _, ys, hy, al⟩ := b
        refine k _ T R ys (bb.trans sT) nT0 n0 upd_same (sT _ _ hy) ?_
        rw [← tot]
        exact dpAll_same (hide_same.trans sT) al
end
end Qb
end PySem
namespace PySem
namespace Qb
open PySem.W PySem.Calls PyProof.Rows L2
/-! # a pattern's things: the lists of its ranges each at a place of its own -/
def Tups (H H' : Hp) : Prop := ∀ b o, H b = some o → (∀ ys, o ≠ .lst ys) → H' b = some o
theorem Tups.of {H H' : Hp} (s : Same H H') : Tups H H' := fun b o h _ => s b o h
theorem Tups.trans {H H' H2 : Hp} (s : Tups H H') (t : Tups H' H2) : Tups H H2 := fun b o h n => t b o (s b o h n) n
theorem Tups.put {H : Hp} {R : Addr} {ys zs : List V} (h : H R = some (.lst ys)) : Tups H (L2.upd H R (.lst zs)) := fun b o hb n => by
  rw [upd_ne (fun e => by rw [e, h] at hb; exact n ys (Option.some.inj hb).symm)]
  exact hb
theorem sqT_tups {K : Frag} {H H' : Hp} {a : Addr} {xs : List V} (s : Tups H H') (h : SqT K H a xs) : SqT K H' a xs := by
  rcases h with (h | ⟨o, h⟩) | h
  · exact .inl (.inl (s _ _ h fun _ z => by cases z))
  · exact .inl (.inr ⟨o, s _ _ h fun _ z => by cases z⟩)
  · exact .inr h
theorem strs_tups {K : Frag} {H H' : Hp} (s : Tups H H') : ∀ {xs : List Str} {vs : List V}, DpAll K H vs (xs.map PyData.str) → DpAll K H' vs (xs.map PyData.str)
  | [], _, .nil => .nil
  | x :: xs, _, .cons h t => .cons (by obtain rfl := dp_str h; exact .str _) (strs_tups s t)
theorem tup_tups {K : Frag} {H H' : Hp} (s : Tups H H') {xs : List Str} {v : V} (h : Dp K H v (.tuple (xs.map PyData.str))) : Dp K H' v (.tuple (xs.map PyData.str)) := by
  obtain ⟨a, ys, rfl, q, all⟩ := dp_tup h
  exact .tup (sqT_tups s q) (strs_tups s all)
theorem rgs_tups {K : Frag} {H H' : Hp} (s : Tups H H') : ∀ {rs : List (Nat × Nat)} {vs : List V}, DpAll K H vs (rs.map rgD) → DpAll K H' vs (rs.map rgD)
  | [], _, .nil => .nil
  | r :: rs, _, .cons h t => .cons (tup_tups (xs := [sg r.1, sg r.2]) s h) (rgs_tups s t)
def Pt.flat : Pt → Bool
  | .of _ _ => false
  | _ => true
theorem flat_tups {K : Frag} {H H' : Hp} (s : Tups H H') {p : Pt} {v : V} (hf : p.flat = true) (h : Dp K H v p.d) : Dp K H' v p.d := by
  cases p with
  | one c => exact tup_tups (xs := ["one", sg c]) s h
  | any => exact tup_tups (xs := ["any"]) s h
  | lot => exact tup_tups (xs := ["lot"]) s h
  | of _ _ => cases hf
inductive PtsAt (K : Frag) (H : Hp) : List V → List Pt → List Addr → Prop
  | nil : PtsAt K H [] [] []
  | flat {x : V} {p : Pt} {xs : List V} {ps : List Pt} {rs : List Addr} : p.flat = true → Dp K H x p.d → PtsAt K H xs ps rs → PtsAt K H (x :: xs) (p :: ps) rs
  | of {t r : Addr} {ys : List V} {no : Bool} {l : List (Nat × Nat)} {xs : List V} {ps : List Pt} {rs : List Addr} : SqT K H t [.str "of", .bl no, .ref r] → H r = some (.lst ys) → DpAll K H ys (l.map rgD) → PtsAt K H xs ps rs → PtsAt K H (.ref t :: xs) (.of no l :: ps) (r :: rs)
theorem PtsAt.keep {K : Frag} {H H' : Hp} (s : Tups H H') : ∀ {xs : List V} {ps : List Pt} {rs : List Addr}, PtsAt K H xs ps rs → (∀ r ∈ rs, H' r = H r) → PtsAt K H' xs ps rs
  | _, _, _, .nil, _ => .nil
  | _, _, _, .flat a b t, h => .flat a (flat_tups s a b) (t.keep s h)
  | _, _, _, .of a b c t, h => .of (sqT_tups s a) (by rw [h _ (.head _)]; exact b) (rgs_tups s c) (t.keep s fun r m => h r (.tail _ m))
theorem PtsAt.app {K : Frag} {H : Hp} : ∀ {xs xs' : List V} {ps ps' : List Pt} {rs rs' : List Addr}, PtsAt K H xs ps rs → PtsAt K H xs' ps' rs' → PtsAt K H (xs ++ xs') (ps ++ ps') (rs ++ rs')
  | _, _, _, _, _, _, .nil, h => h
  | _, _, _, _, _, _, .flat a b t, h => .flat a b (t.app h)
  | _, _, _, _, _, _, .of a b c t, h => .of a b c (t.app h)
theorem PtsAt.lst {K : Frag} {H : Hp} : ∀ {xs : List V} {ps : List Pt} {rs : List Addr}, PtsAt K H xs ps rs → ∀ r ∈ rs, ∃ ys, H r = some (.lst ys)
  | _, _, _, .nil, r, m => by cases m
  | _, _, _, .flat a b t, r, m => t.lst r m
  | _, _, _, .of a b c t, r, m => by
    rcases List.mem_cons.mp m with rfl | m
    · exact ⟨_, b⟩
    · exact t.lst r m
theorem PtsAt.dp {K : Frag} {H : Hp} : ∀ {xs : List V} {ps : List Pt} {rs : List Addr}, PtsAt K H xs ps rs → DpAll K H xs (ps.map Pt.d)
  | _, _, _, .nil => .nil
  | _, _, _, .flat a b t => .cons b t.dp
  | _, _, _, .of a b c t => .cons (.tup a (.cons (.str _) (.cons (.bl _) (.cons (.lst (SqL.of b) c) .nil)))) t.dp
theorem PtsAt.len {K : Frag} {H : Hp} {xs : List V} {ps : List Pt} {rs : List Addr} (h : PtsAt K H xs ps rs) : xs.length = ps.length := by
  have := dpLen h.dp
  rw [List.length_map] at this
  exact this
/-- a new pattern, from where H was -/
structure NewP (K : Frag) (H H' : Hp) (R : Addr) (xs : List V) (ps : List Pt) (rs : List Addr) : Prop where
  new : H R = none
  same : Same H (hide H' R)
  at_ : H' R = some (.lst xs)
  pts : PtsAt K H' xs ps rs
  nd : rs.Nodup
  fresh : ∀ r ∈ rs, H r = none
  off : R ∉ rs
theorem NewP.base {K : Frag} {H H' : Hp} {R : Addr} {xs : List V} {ps : List Pt} {rs : List Addr} (b : NewP K H H' R xs ps rs) : Same H H' := b.same.trans hide_same
theorem NewP.keep {K : Frag} {H H' H2 : Hp} {R : Addr} {xs : List V} {ps : List Pt} {rs : List Addr} (b : NewP K H H' R xs ps rs) (s : Same H' H2) : NewP K H H2 R xs ps rs := by
  refine ⟨b.new, b.same.trans (hide_mono s), s _ _ b.at_, b.pts.keep (Tups.of s) fun r m => ?_, b.nd, b.fresh, b.off⟩
  obtain ⟨ys, h⟩ := b.pts.lst r m
  rw [h, s _ _ h]
theorem NewP.put {K : Frag} {H H' : Hp} {R : Addr} {xs : List V} {ps : List Pt} {rs : List Addr} (b : NewP K H H' R xs ps rs) {x : V} {p : Pt} {rs' : List Addr} (h : PtsAt K H' [x] [p] rs') (hn : ∀ r ∈ rs', H r = none ∧ r ≠ R ∧ r ∉ rs) (hd : rs'.Nodup) :
    NewP K H (L2.upd H' R (.lst (xs ++ [x]))) R (xs ++ [x]) (ps ++ [p]) (rs ++ rs') := by
  refine ⟨b.new, b.same.trans hide_upd, upd_same, ?_, ?_, ?_, ?_⟩
  · refine (b.pts.app h).keep (Tups.put b.at_) fun r m => upd_ne fun e => ?_
    rcases List.mem_append.mp m with m | m
    · exact b.off (e ▸ m)
    · exact (hn r m).2.1 e
  · exact List.nodup_append.mpr ⟨b.nd, hd, fun a ha c hc e => (hn c hc).2.2 (e ▸ ha)⟩
  · intro r m
    rcases List.mem_append.mp m with m | m
    · exact b.fresh r m
    · exact (hn r m).1
  · intro m
    rcases List.mem_append.mp m with m | m
    · exact b.off m
    · exact (hn _ m).2.1 rfl
def spPo (K : Frag) : Sp := fun vs H Q _ => ∃ (v : V) (ps : List Pr), vs = [v] ∧ Dp K H v (.list (ps.map prD)) ∧ ps.length ≤ 300 ∧
  ∀ (H' : Hp) (R : Addr) (xs : List V) (rs : List Addr), NewP K H H' R xs (patOf ps) rs → Q (.ref R) H'
theorem pr_two {K : Frag} {H : Hp} {v : V} {p : Pr} (h : Dp K H v (prD p)) : ∃ t, v = .ref t ∧ SqT K H t [.str (tx p.1), .str p.2] := dp_two h
theorem tx_ne (o : Option Nat) : (!decide (V.str (tx o) = V.str "")) = o.isSome := by
  cases o with
  | none => rfl
  | some c =>
    show (!decide (V.str (sg c) = V.str "")) = true
    rw [decide_eq_false]
    · rfl
    · intro z
      have := congrArg Str.length (V.str.inj z)
      cases this
theorem row_take {ps : List Pr} {i : Nat} {p : Pr} (h : ps[i]? = some p) : rowOf (ps.take (i + 1)) = rowOf (ps.take i) ++ (match p.1 with | some c => [(c, p.2)] | none => []) := by
  rw [take_snoc h]
  unfold rowOf
  rw [List.filterMap_append]
  congr 1
  obtain ⟨o, m⟩ := p
  cases o <;> rfl
theorem at_drop {row : List Rw} {i j : Nat} (hj : bg row i + 1 ≤ j) : looseAt ((row.take j).drop (i + 1)) 0 33 = looseAt row (i + 1) 33 := by
  have b := bg_ge row i
  rw [looseAt_drop]
  unfold looseAt
  rw [Nat.add_zero, List.getElem?_take_of_lt (by omega)]
theorem rg_drop {row : List Rw} {i j : Nat} (hj : bg row i + 1 ≤ j) : ((row.take j).drop (i + 1)).drop (if looseAt ((row.take j).drop (i + 1)) 0 33 = true then 1 else 0) = (row.take j).drop (bg row i) := by
  rw [at_drop hj, List.drop_drop]
  unfold bg
  by_cases c : looseAt row (i + 1) 33 = true
  · rw [if_pos c, if_pos c]
  · rw [if_neg c, if_neg c]
end Qb
end PySem
namespace PySem
namespace Qb
open PySem.W PySem.Calls PyProof.Rows L2
theorem cut_mid (xs : List V) {i j : Nat} (h1 : i ≤ j) (h2 : j ≤ xs.length) : cutV xs (some (i : Nat)) (some (j : Nat)) = (xs.take j).drop i := by
  unfold cutV
  rw [HT.sIx_nat, HT.sIx_nat, Nat.min_eq_left h2, Nat.min_eq_left (Nat.le_trans h1 h2), List.drop_take]
theorem cut_from (xs : List V) (i : Nat) : cutV xs (some (i : Nat)) none = xs.drop i := by
  unfold cutV
  rw [HT.sIx_nat, HT.sIx_none]
  by_cases h : i ≤ xs.length
  · rw [Nat.min_eq_left h]
    exact List.take_of_length_le (by rw [List.length_drop]; omega)
  · rw [Nat.min_eq_right (by omega), List.drop_eq_nil_of_le (by omega), List.drop_eq_nil_of_le (by omega), List.take_nil]
theorem cut_to (xs : List V) (i : Nat) : cutV xs none (some (i : Nat)) = xs.take i := by
  unfold cutV
  rw [HT.sIx_nat, HT.sIx_none, List.drop_zero, Nat.sub_zero]
  by_cases h : i ≤ xs.length
  · rw [Nat.min_eq_left h]
  · rw [Nat.min_eq_right (by omega), List.take_of_length_le (Nat.le_refl _), List.take_of_length_le (by omega)]
theorem single_flat (r : Rw) : (single r).flat = true := by
  unfold single
  split
  · rfl
  · split <;> rfl
theorem NewP.from {K : Frag} {H0 H H' : Hp} {R : Addr} {xs : List V} {ps : List Pt} {rs : List Addr} (s : Same H0 H) (b : NewP K H H' R xs ps rs) : NewP K H0 H' R xs ps rs :=
  ⟨s.free b.new, s.trans b.same, b.at_, b.pts, b.nd, fun r m => s.free (b.fresh r m), b.off⟩
section
variable {P : Program} {w : World} {K : Frag} {mg : Str → Option Value} {base : Heap}
abbrev sPo : Stmt := top 17
abbrev nPo : List Str := ["signs", "row", "sign", "mark", "pattern", "at", "stop"]
theorem scPo : FnScope nPo ["signs"] (defScope sPo) := ⟨rfl, rfl, rfl, by decide +kernel, rfl, by decide +kernel, by decide +kernel⟩
theorem has_Po {f : Addr} {fd : FuncData} (F : Fun K "pattern_of" "pattern_of" sPo f fd) (g : mg "pattern_of" = some (.ref f)) (B : Blt mg) (hOe : Has P w K mg base 2 "of_end" ["row", "at"] (spOe K)) (hOt : Has P w K mg base 2 "of_told" ["row"] (spOt K)) (hSt : Has P w K mg base 1 "sign_told" ["signed"] (spSt K)) :
    FnOk P w K mg base CX0 3 f fd ["signs"] (spPo K) := by
  obtain ⟨fOe, dOe, gOe, kOe, bOe, GOe⟩ := hOe
  obtain ⟨fOt, dOt, gOt, kOt, bOt, GOt⟩ := hOt
  obtain ⟨fSt, dSt, gSt, kSt, bSt, GSt⟩ := hSt
  refine (F.ok scPo (fun vs H Q E h => ?_) (fun cdv A outer s H vs Q E hr h => ?_))
  · obtain ⟨v, ps, rfl, _⟩ := h
    rfl
  · refine ⟨_, (pss_cons (ps_setLc (i := 1) (own := [("sign", 2), ("mark", 3)]) (g := gTup K 2 (gCons (gName 2) (gCons (gName 3) gNil))) rfl scPo.nd rfl rfl (sw_true rfl rfl rfl (by decide +kernel)) (pi_list (pv 0)) (blkOk_by (N := nPo) (sc := defScope sPo) (by decide +kernel)) (fun _ _ _ _ _ => pg_tup rfl (pgs_cons (pg_name (i := 2) scPo.nd rfl (.inl rfl)) (pgs_cons (pg_name (i := 3) scPo.nd rfl (.inl rfl)) pgs_nil))) (fun _ _ _ _ _ => pts_one (pt_cmpR op_ne (pv 2) pe_str (nomark _))) (fun _ _ _ _ _ => (pe_tup (pa_cons (pv 2) (pa_cons (pv 3) pa_nil)))))
        (pss_cons (ps_set (i := 4) scPo.nd rfl (.inl rfl) (pe_lst pa_nil))
        (pss_cons (ps_set (i := 5) scPo.nd rfl (.inl rfl) pe_int)
        (pss_cons (ps_while PassesOwn.never (pt_cmpR op_lt (pv 5) (pe_callB call_len_seq (by rfl) B.len PySem.boot_len (pa_cons (pv 1) pa_nil)) (nomark _)) (pss_cons (ps_set (i := 6) scPo.nd rfl (.inl rfl) (pe_call GOe hr rfl gOe kOe bOe .nil pass0 (pa_cons (pv 1) (pa_cons (pv 5) pa_nil))))
          (pss_one (ps_if (pt_cmpR op_gt (pv 6) (pv 5) (nomark _)) (pss_cons (ps_expr (pe_bm PySem.F.plainAttrs_list PySem.F.slot_list_append PySem.F.type_list_append mt_append (pv 4) (pa_cons (pe_call GOt hr rfl gOt kOt bOt .nil pass0 (pa_cons (pe_slice sl_list (pv 1) (po_some (pe_op op_add (pv 5) pe_int)) (po_some (pv 6))) pa_nil)) pa_nil)))
            (pss_one (ps_set (i := 5) scPo.nd rfl (.inl rfl) (pe_op op_add (pv 6) pe_int)))) (pss_cons (ps_expr (pe_bm PySem.F.plainAttrs_list PySem.F.slot_list_append PySem.F.type_list_append mt_append (pv 4) (pa_cons (pe_call GSt (hr.mono (by decide)) rfl gSt kSt bSt .nil pass0 (pa_cons (pe_ix ix_list (pv 1) (pv 5) (fun _ _ => rfl)) pa_nil)) pa_nil)))
            (pss_one (ps_aug (i := 5) scPo.nd rfl (.inl rfl) pe_int ip_add)))))))
        (pss_one (ps_ret (pv 4))))))), ?_⟩
    obtain ⟨v, ps, rfl, hd, hl, k⟩ := h
    obtain ⟨a, xs, rfl, hq, all⟩ := dp_lst hd
    have lx := dpLen all
    rw [List.length_map] at lx
    refine ⟨_, rfl, a, rfl, ⟨_, hq⟩, fun D hD => lc_it (walk_list (xs := xs)) (fun i H' => Bld K H H' D ((rowOf (ps.take i)).map rwD)) (Bld.new hD) (fun i H' _ e => e.base.seq hq) (fun i x H' H2 hi e y => ?_) (fun H' e => ?_)⟩
    · obtain ⟨rfl, hx⟩ := y
      obtain ⟨d, hdi, dp⟩ := dpAt' all hx
      rw [List.getElem?_map] at hdi
      obtain ⟨p, hp, rfl⟩ : ∃ p, ps[i]? = some p ∧ prD p = d := by
        cases z : ps[i]? with
        | none => rw [z] at hdi; cases hdi
        | some p => rw [z] at hdi; exact ⟨p, rfl, Option.some.inj hdi⟩
      obtain ⟨t, rfl, ht⟩ := pr_two (dp_same e.base dp)
      have er := row_take hp
      refine ⟨t, _, rfl, ht, rfl, _, _, rfl, _, _, rfl, rfl, rfl, ?_⟩
      refine ⟨_, rfl, rfl, _, rfl, ?_⟩
      rw [tx_ne]
      obtain ⟨o, m⟩ := p
      cases o with
      | none =>
        refine if_no rfl ?_
        rw [er]
        simpa using e
      | some c =>
        refine if_yes rfl ⟨_, rfl, _, rfl, (by decide : 2 ≤ sizeLine), fun T nT => ?_⟩
        obtain ⟨ys, hy, ly, put⟩ := (e.same (same_upd (o := .tup [.str (sg c), .str m]) nT)).put
        refine ⟨ys, hy, ?_, ?_⟩
        · rw [ly, List.length_map, sizeLine_eq]
          have h1 := row_len (ps.take i)
          rw [List.length_take] at h1
          omega
        · rw [er, List.map_append]
          exact put _ _ (e.two nT _ _)
    · rw [lx, List.take_length] at e
      obtain ⟨row, hrow⟩ : ∃ row, row = rowOf ps := ⟨_, rfl⟩
      rw [← hrow] at e
      have lr : row.length ≤ 300 := by rw [hrow]; exact Nat.le_trans (row_len ps) hl
      have dr : Dp K H' (.ref D) (rowD row) := e.dp
      have sB := e.base
      refine ⟨(by decide : 0 ≤ sizeLine), fun R nR => ?_⟩
      have b0 : NewP K H' (L2.upd H' R (.lst [])) R [] [] [] := ⟨nR, hide_of (same_upd nR) nR, upd_same, .nil, List.nodup_nil, by simp, by simp⟩
      refine while_n (fun m σ H2 => ∃ (i n : Nat) (x2 x3 x6 : Option V) (xs : List V) (pre : List Pt) (rs : List Addr), σ = [some (.ref a), some (.ref D), x2, x3, some (.ref R), some (.int i), x6] ∧ m = row.length + 1 - i ∧ i ≤ row.length + 1 ∧ pre.length ≤ i ∧ row.length - i ≤ n ∧ NewP K H' H2 R xs pre rs ∧ pre ++ ptFrom row n i = patOf ps) (row.length + 1) ⟨0, row.length, _, _, _, [], [], [], rfl, rfl, by omega, Nat.zero_le _, by omega, b0, by rw [hrow]; rfl⟩ (fun m σ H2 e => ?_)
      obtain ⟨i, n, x2, x3, x6, zs, pre, rs, rfl, rfl, hi1, hp, hn, b, tot⟩ := e
      obtain ⟨D', ys, eD, hqD, lD, allD, at_⟩ := row_at (dp_same b.base dr)
      obtain rfl : D = D' := by injection eD
      refine ⟨_, rfl, _, rfl, D, ys, rfl, .inl hqD, _, _, rfl, rfl, _, rfl, if_by (fun e1 => ?_) (fun e1 => ?_)⟩
      · have hi : i < row.length := by have := of_decide_eq_true e1; omega
        obtain ⟨n, rfl⟩ : ∃ n', n = n' + 1 := ⟨n - 1, by omega⟩
        refine ⟨_, fun σ' H' z => z, ?_⟩
        refine ⟨_, rfl, _, rfl, .ref D, row, i, rfl, dp_same b.base dr, lr, hi, fun H3 s3 => ?_⟩
        have b3 := b.keep s3
        refine ⟨_, rfl, _, rfl, _, _, rfl, rfl, _, rfl, ?_⟩
        cases ee : endAt row i with
        | some j =>
          have hj := endAt_ge ee
          have hb := bg_ge row i
          refine if_yes (decide_eq_true (by show ((i : Nat) : Int) < ((j : Nat) : Int); omega)) ?_
          refine ⟨_, rfl, .inl ⟨rfl, _, SqL.of b3.at_⟩, _, rfl, _, rfl, _, _, rfl, rfl, _, rfl, _, rfl, _, rfl, D, ys, rfl, s3.seq hqD, fun p np => ?_⟩
          have ec : cutV ys (some ((i : Nat) + 1)) (some (j : Nat)) = (ys.take j).drop (i + 1) := cut_mid ys (i := i + 1) (by omega) (by omega)
          have s4 := same_upd (o := .lst (cutV ys (some ((i : Nat) + 1)) (some (j : Nat)))) np
          have dsub : Dp K (L2.upd H3 p (.lst (cutV ys (some ((i : Nat) + 1)) (some (j : Nat))))) (.ref p) (rowD ((row.take j).drop (i + 1))) := by
            have z := dpAll_same (s3.trans s4) (dpDrop (i + 1) (dpTake j allD))
            rw [← ec, ← List.map_take, ← List.map_drop] at z
            exact .lst (SqL.of upd_same) z
          refine ⟨.ref p, (row.take j).drop (i + 1), rfl, dsub, by rw [List.length_drop, List.length_take]; omega, fun H5 t r zs5 s5 nt nr ht5 hr5 d5 => ?_⟩
          rw [rg_drop hj.1] at d5
          rw [at_drop hj.1] at ht5
          have b5 := b3.keep (s4.trans s5)
          refine ⟨R, zs, _, rfl, rfl, b5.at_, ?_, _, rfl, _, _, rfl, rfl, _, ?_, j + 1, n, x2, x3, _, zs ++ [.ref t], pre ++ [ofAt row i j], rs ++ [r], rfl, rfl, by omega, by rw [List.length_append]; show _ + 1 ≤ _; omega, by omega, ?_, ?_⟩
          · rw [b5.pts.len, sizeLine_eq]; omega
          · omega
          · refine b5.put (.of (SqT.of ht5) hr5 d5 .nil) (fun r' m => ?_) (by simp)
            rcases List.mem_singleton.mp m with rfl
            refine ⟨b3.base.free (s4.free nr), fun e => ?_, fun m => ?_⟩
            · rw [e] at nr
              have z := (s4 _ _ b3.at_).symm.trans nr
              cases z
            · obtain ⟨ys', h'⟩ := b3.pts.lst _ m
              have z := (s4 _ _ h').symm.trans nr
              cases z
          · rw [← tot, pt_of (List.getElem?_eq_getElem hi) ee]
            simp
        | none =>
          refine if_no (decide_eq_false (by show ¬ ((i : Nat) : Int) < ((i : Nat) : Int); omega)) ?_
          obtain ⟨t, hx, ht⟩ := at_ i row[i] (List.getElem?_eq_getElem hi)
          refine ⟨_, rfl, .inl ⟨rfl, _, SqL.of b3.at_⟩, _, rfl, _, rfl, D, ys, _, _, rfl, rfl, s3.seq hqD, atI_nat hx, .ref t, row[i], rfl, .tup (sqT_same s3 ht) (.cons (.str _) (.cons (.str _) .nil)), fun H5 x s5 dx => ?_⟩
          have b5 := b3.keep s5
          refine ⟨R, zs, _, rfl, rfl, b5.at_, ?_, _, rfl, _, _, rfl, rfl, _, ?_, i + 1, n, x2, x3, _, zs ++ [x], pre ++ [single row[i]], rs ++ [], rfl, rfl, by omega, by rw [List.length_append]; show _ + 1 ≤ _; omega, by omega, ?_, ?_⟩
          · rw [b5.pts.len, sizeLine_eq]; omega
          · omega
          · exact b5.put (.flat (single_flat _) dx .nil) (by simp) List.nodup_nil
          · rw [← tot, pt_one (List.getElem?_eq_getElem hi) ee]
            simp
      · have hi : row.length ≤ i := by have := of_decide_eq_false e1; omega
        rw [pt_end hi, List.append_nil] at tot
        refine ⟨_, rfl, k H2 R zs rs ?_⟩
        rw [← tot]
        exact b.from sB
end
end Qb
end PySem
namespace PySem
namespace Qb
open PySem.W PySem.Calls PyProof.Rows L2
/-! # equal data, by the law's own comparison -/
def Pl0 (d : PyData) : Prop := (∃ x, d = .str x) ∨ (∃ b, d = .bool b) ∨ (∃ i, d = .int i) ∨ d = .none
def Pl : Nat → PyData → Prop
  | 0, d => Pl0 d
  | n + 1, d => Pl0 d ∨ ∃ ds : List PyData, (d = .list ds ∨ d = .tuple ds) ∧ ds.length ≤ 1000 ∧ ∀ e ∈ ds, Pl n e
def spSm (K : Frag) : Nat → Sp
  | 0 => fun _ _ _ _ => False
  | n + 1 => fun vs H Q _ => ∃ (v u : V) (d : PyData), vs = [v, u] ∧ Dp K H v d ∧ Dp K H u d ∧ Pl n d ∧ ∀ H', Same H H' → Q (.bl true) H'
def kindOf : PyData → String
  | .str _ => "str"
  | .bool _ => "bool"
  | .int _ => "int"
  | .none => "NoneType"
  | .list _ => "list"
  | .tuple _ => "tuple"
  | .dict _ => "dict"
theorem kan {K : PySem.W.Frag} {t c : Value} {cs : List Value} {r : Bool} (h : PySem.W.kitOne K t c = some false) (hr : PySem.W.kitAny K t cs = some r) : PySem.W.kitAny K t (c :: cs) = some r := kitAny_cons h (fun _ => hr) (fun z => by cases z)
theorem kay {K : PySem.W.Frag} {t c : Value} {cs : List Value} (h : PySem.W.kitOne K t c = some true) : PySem.W.kitAny K t (c :: cs) = some true := kitAny_cons h (fun z => by cases z) (fun _ => rfl)
theorem sq_same {K : Frag} {H H' : Hp} {a : Addr} {xs : List V} (s : Same H H') (h : SqL K H a xs ∨ SqT K H a xs) : SqL K H' a xs ∨ SqT K H' a xs := by
  rcases h with h | h
  · exact .inl (s.seq h)
  · exact .inr (sqT_same s h)
section
variable {P : Program} {w : World} {K : Frag} {mg : Str → Option Value} {base : Heap}
abbrev sSm : Stmt := top 26
abbrev nSm : List Str := ["_law_found", "_law_due", "_law_k"]
theorem scSm : FnScope nSm ["_law_found", "_law_due"] (defScope sSm) := ⟨rfl, rfl, rfl, by decide +kernel, rfl, by decide +kernel, by decide +kernel⟩
theorem ok_Sm {f : Addr} {fd : FuncData} (F : Fun K "_law_same" "_law_same" sSm f fd) (g : mg "_law_same" = some (.ref f)) (b : Binds K fd ["_law_found", "_law_due"] []) (B : Blt mg) : ∀ n, FnOk P w K mg base CX0 (n + 1) f fd ["_law_found", "_law_due"] (spSm K n)
  | 0 => F.ok scSm (fun vs H Q E h => h.elim) (fun cdv A outer s H vs Q E hr h => h.elim)
  | n + 1 => by
    have GSm := ok_Sm F g b B n
    refine F.ok scSm (fun vs H Q E h => ?_) (fun cdv A outer s H vs Q E hr h => ?_)
    · obtain ⟨v, u, d, rfl, _⟩ := h
      rfl
    · refine ⟨_, (pss_cons (ps_if (pt_val (pe_callB call_isiT (by rfl) B.isi (by decide +kernel) (pa_cons (pv 1) (pa_cons (pe_tup (pa_cons (pe_bltn (v := .ty "list") (by rfl) B.list (by decide +kernel) rfl) (pa_cons (pe_bltn (v := .ty "tuple") (by rfl) B.tuple (by decide +kernel) rfl) pa_nil))) pa_nil)))) (pss_cons (ps_if (PW.pt (pw_or (pt_cmpR op_ne (pe_callB call_isi (by rfl) B.isi (by decide +kernel) (pa_cons (pv 1) (pa_cons (pe_bltn (v := .ty "list") (by rfl) B.list (by decide +kernel) rfl) pa_nil))) (pe_callB call_isi (by rfl) B.isi (by decide +kernel) (pa_cons (pv 0) (pa_cons (pe_bltn (v := .ty "list") (by rfl) B.list (by decide +kernel) rfl) pa_nil))) (nomark _)) (pw_or1 (pt_cmpR op_ne (pe_callB call_isi (by rfl) B.isi (by decide +kernel) (pa_cons (pv 1) (pa_cons (pe_bltn (v := .ty "tuple") (by rfl) B.tuple (by decide +kernel) rfl) pa_nil))) (pe_callB call_isi (by rfl) B.isi (by decide +kernel) (pa_cons (pv 0) (pa_cons (pe_bltn (v := .ty "tuple") (by rfl) B.tuple (by decide +kernel) rfl) pa_nil))) (nomark _))))) (pss_one (ps_ret pe_bl)) pss_nil)
          (pss_one (ps_ret (pe_and (pe_cmpR op_eq (pe_callB call_len_seq (by rfl) B.len PySem.boot_len (pa_cons (pv 0) pa_nil)) (pe_callB call_len_seq (by rfl) B.len PySem.boot_len (pa_cons (pv 1) pa_nil)) (nomark _)) (pe_one (pe_callB (cr_all rfl) (by rfl) B.all (by decide +kernel) (pa_cons (pe_lc (te := tCall (spSm K n) [] E0 (tCons (tOp (rIx K) (tVar 0) (tVar 2)) (tCons (tOp (rIx K) (tVar 1) (tVar 2)) tNil))) (own := [("_law_k", 2)]) (g := gName 2) (tt := tYes) rfl scSm.nd (pi_range1 (by rfl) B.range (pa_cons (pe_callB call_len_seq (by rfl) B.len PySem.boot_len (pa_cons (pv 1) pa_nil)) pa_nil)) (blkOk_by (N := nSm) (sc := defScope sSm) (by decide +kernel)) (fun _ _ _ _ _ => pg_name (i := 2) scSm.nd rfl (.inl rfl)) (fun _ _ _ _ _ => pts_nil) (fun _ _ _ _ _ => (pe_call GSm hr rfl g F.kp b .nil pass0 (pa_cons (pe_ix ix_seq (pv 0) (pv 2) (fun _ _ => rfl)) (pa_cons (pe_ix ix_seq (pv 1) (pv 2) (fun _ _ => rfl)) pa_nil))))) pa_nil))))))) pss_nil)
        (pss_cons (ps_if (pt_cmpR op_isN (pv 1) pe_non (nomark _)) (pss_one (ps_ret (pe_cmpR op_isN (pv 0) pe_non (nomark _)))) pss_nil)
        (pss_cons (ps_if (pt_val (pe_callB call_isi (by rfl) B.isi (by decide +kernel) (pa_cons (pv 1) (pa_cons (pe_bltn (v := .ty "int") (by rfl) B.int (by decide +kernel) rfl) pa_nil)))) (pss_one (ps_ret (pe_and (pe_callB call_isi (by rfl) B.isi (by decide +kernel) (pa_cons (pv 0) (pa_cons (pe_bltn (v := .ty "int") (by rfl) B.int (by decide +kernel) rfl) pa_nil))) (pe_and (pe_cmpR op_eq (pe_callB call_isi (by rfl) B.isi (by decide +kernel) (pa_cons (pv 0) (pa_cons (pe_bltn (v := .ty "bool") (by rfl) B.bool (by decide +kernel) rfl) pa_nil))) (pe_callB call_isi (by rfl) B.isi (by decide +kernel) (pa_cons (pv 1) (pa_cons (pe_bltn (v := .ty "bool") (by rfl) B.bool (by decide +kernel) rfl) pa_nil))) (nomark _)) (pe_one (pe_cmpR op_eq (pv 0) (pv 1) (nomark _))))))) pss_nil)
        (pss_one (ps_ret (pe_and (pe_callB call_isi (by rfl) B.isi (by decide +kernel) (pa_cons (pv 0) (pa_cons (pe_bltn (v := .ty "str") (by rfl) B.str (by decide +kernel) rfl) pa_nil))) (pe_one (pe_cmpR op_eq (pv 0) (pv 1) (nomark _))))))))), ?_⟩
      obtain ⟨v, u, d, rfl, hv, hu, hp, k⟩ := h
      rcases (show Pl0 d ∨ ∃ m ds, n = m + 1 ∧ (d = .list ds ∨ d = .tuple ds) ∧ ds.length ≤ 1000 ∧ ∀ e ∈ ds, Pl m e from by
        cases n with
        | zero => exact .inl hp
        | succ m => rcases hp with h | ⟨ds, h⟩
                    · exact .inl h
                    · exact .inr ⟨m, ds, rfl, h⟩) with h0 | ⟨m, ds, rfl, h1, h2, h3⟩
      · rcases h0 with ⟨x, rfl⟩ | ⟨x, rfl⟩ | ⟨x, rfl⟩ | rfl
        · cases hv
          cases hu
          refine ⟨_, rfl, (by decide : 2 ≤ sizeLine), fun T nT => ⟨.str x, T, _, .type "str", [.type "list", .type "tuple"], false, rfl, upd_same, .cons (.ty _) (.cons (.ty _) .nil), .base (.str x), kan (kit_ty (by decide +kernel)) (kan (kit_ty (by decide +kernel)) kitAny_nil), _, rfl, if_no rfl ?_⟩⟩
          refine ⟨_, rfl, rfl, _, rfl, if_no (by simp) ?_⟩
          refine ⟨_, rfl, .str x, .ty "int", .type "str", .type "int", false, rfl, .ty _, .base (.str x), kit_ty (by decide +kernel), _, rfl, if_no rfl ?_⟩
          refine ⟨_, rfl, .str x, .ty "str", .type "str", .type "str", true, rfl, .ty _, .base (.str x), kit_ty (by decide +kernel), _, rfl, if_yes rfl ⟨_, rfl, _, rfl, rfl, ?_⟩⟩
          rw [decide_eq_true rfl]
          exact k _ (same_upd nT)
        · cases hv
          cases hu
          refine ⟨_, rfl, (by decide : 2 ≤ sizeLine), fun T nT => ⟨.bl x, T, _, .type "bool", [.type "list", .type "tuple"], false, rfl, upd_same, .cons (.ty _) (.cons (.ty _) .nil), .base (.bl x), kan (kit_ty (by decide +kernel)) (kan (kit_ty (by decide +kernel)) kitAny_nil), _, rfl, if_no rfl ?_⟩⟩
          refine ⟨_, rfl, rfl, _, rfl, if_no (by simp) ?_⟩
          refine ⟨_, rfl, .bl x, .ty "int", .type "bool", .type "int", true, rfl, .ty _, .base (.bl x), kit_ty (by decide +kernel), _, rfl, if_yes rfl ?_⟩
          refine ⟨_, rfl, .bl x, .ty "int", .type "bool", .type "int", true, rfl, .ty _, .base (.bl x), kit_ty (by decide +kernel), _, rfl, if_yes rfl ?_⟩
          refine ⟨_, rfl, .bl x, .ty "bool", .type "bool", .type "bool", true, rfl, .ty _, .base (.bl x), kit_ty (by decide +kernel), _, rfl, .bl x, .ty "bool", .type "bool", .type "bool", true, rfl, .ty _, .base (.bl x), kit_ty (by decide +kernel), rfl, _, rfl, if_yes rfl ⟨_, rfl, _, rfl, rfl, ?_⟩⟩
          rw [decide_eq_true rfl]
          exact k _ (same_upd nT)
        · cases hv
          cases hu
          refine ⟨_, rfl, (by decide : 2 ≤ sizeLine), fun T nT => ⟨.int x, T, _, .type "int", [.type "list", .type "tuple"], false, rfl, upd_same, .cons (.ty _) (.cons (.ty _) .nil), .base (.int x), kan (kit_ty (by decide +kernel)) (kan (kit_ty (by decide +kernel)) kitAny_nil), _, rfl, if_no rfl ?_⟩⟩
          refine ⟨_, rfl, rfl, _, rfl, if_no (by simp) ?_⟩
          refine ⟨_, rfl, .int x, .ty "int", .type "int", .type "int", true, rfl, .ty _, .base (.int x), kit_ty (by decide +kernel), _, rfl, if_yes rfl ?_⟩
          refine ⟨_, rfl, .int x, .ty "int", .type "int", .type "int", true, rfl, .ty _, .base (.int x), kit_ty (by decide +kernel), _, rfl, if_yes rfl ?_⟩
          refine ⟨_, rfl, .int x, .ty "bool", .type "int", .type "bool", false, rfl, .ty _, .base (.int x), kit_ty (by decide +kernel), _, rfl, .int x, .ty "bool", .type "int", .type "bool", false, rfl, .ty _, .base (.int x), kit_ty (by decide +kernel), rfl, _, rfl, if_yes rfl ⟨_, rfl, _, rfl, rfl, ?_⟩⟩
          rw [decide_eq_true rfl]
          exact k _ (same_upd nT)
        · cases hv
          cases hu
          refine ⟨_, rfl, (by decide : 2 ≤ sizeLine), fun T nT => ⟨.non, T, _, .type "NoneType", [.type "list", .type "tuple"], false, rfl, upd_same, .cons (.ty _) (.cons (.ty _) .nil), .base .non, kan (kit_ty (by decide +kernel)) (kan (kit_ty (by decide +kernel)) kitAny_nil), _, rfl, if_no rfl ?_⟩⟩
          refine ⟨_, rfl, rfl, _, rfl, if_yes (by simp) ⟨_, rfl, rfl, ?_⟩⟩
          rw [decide_eq_true rfl]
          exact k _ (same_upd nT)
      · rcases h1 with rfl | rfl
        · obtain ⟨a, xs, rfl, hqa, alla⟩ := dp_lst hv
          obtain ⟨c, ys, rfl, hqc, allc⟩ := dp_lst hu
          have lx := dpLen alla
          have ly := dpLen allc
          refine ⟨_, rfl, (by decide : 2 ≤ sizeLine), fun T nT => ?_⟩
          have s1 := same_upd (o := .tup [.ty "list", .ty "tuple"]) nT
          have hqa := s1.seq hqa
          have hqc := s1.seq hqc
          refine ⟨.ref c, T, _, .type "list", [.type "list", .type "tuple"], true, rfl, upd_same, .cons (.ty _) (.cons (.ty _) .nil), ty_lst hqc, kay (kit_ty (by decide +kernel)), _, rfl, if_yes rfl ?_⟩
          refine ⟨_, rfl, .ref c, .ty "list", .type "list", .type "list", true, rfl, .ty _, ty_lst hqc, kit_ty (by decide +kernel), _, rfl, .ref a, .ty "list", .type "list", .type "list", true, rfl, .ty _, ty_lst hqa, kit_ty (by decide +kernel), rfl, _, rfl, if_no (by simp) ?_⟩
          refine ⟨_, rfl, .ref c, .ty "tuple", .type "list", .type "tuple", false, rfl, .ty _, ty_lst hqc, kit_ty (by decide +kernel), _, rfl, .ref a, .ty "tuple", .type "list", .type "tuple", false, rfl, .ty _, ty_lst hqa, kit_ty (by decide +kernel), rfl, _, rfl, if_no (by simp) ?_⟩
          refine ⟨_, rfl, a, xs, rfl, .inl hqa, _, rfl, c, ys, rfl, .inl hqc, rfl, _, rfl, if_yes (by rw [lx, ly]; simp) ?_⟩
          refine ⟨_, rfl, c, ys, rfl, .inl hqc, _, rfl, by omega, by omega, fun D hD => ?_⟩
          refine lc_it (walk_range (lo := 0) (n := ys.length)) (fun i H' => Same (L2.upd H T (.tup [.ty "list", .ty "tuple"])) H' ∧ H' D = some (.lst ((List.replicate i true).map V.bl))) ⟨same_upd hD, upd_same⟩ (fun _ _ _ _ => trivial) (fun i x H' H2 hi e y => ?_) (fun H' e => ?_)
          · obtain ⟨s2, hDt⟩ := e
            obtain ⟨rfl, rfl⟩ := y
            obtain ⟨d, hdi⟩ : ∃ d, ds[i]? = some d := ⟨_, List.getElem?_eq_getElem (by omega)⟩
            obtain ⟨x1, hx1, dx1⟩ := dpAt alla hdi
            obtain ⟨x2, hx2, dx2⟩ := dpAt allc hdi
            refine ⟨rfl, _, rfl, _, rfl, .inl ⟨a, xs, _, x1, rfl, rfl, s2.seq hqa, by rw [Int.zero_add]; exact atI_nat hx1, _, rfl, _, rfl, .inl ⟨c, ys, _, x2, rfl, rfl, s2.seq hqc, by rw [Int.zero_add]; exact atI_nat hx2, x1, x2, d, rfl, dp_same (s1.trans s2) dx1, dp_same (s1.trans s2) dx2, h3 d (List.mem_of_getElem? hdi), fun H3 s3 => ⟨_, s3 _ _ hDt, ?_, same_upd2 (s2.trans s3) hD, ?_⟩⟩⟩⟩
            · rw [List.length_map, List.length_replicate, sizeLine_eq]
              omega
            · rw [upd_same, List.replicate_succ', List.map_append]
              rfl
          · obtain ⟨s2, hDt⟩ := e
            refine ⟨D, _, rfl, SqL.of hDt, ?_⟩
            rw [show (List.replicate ys.length true).all id = true by rw [List.all_eq_true]; intro x m; exact List.eq_of_mem_replicate m]
            exact k _ (s1.trans s2)
        · obtain ⟨a, xs, rfl, hqa, alla⟩ := dp_tup hv
          obtain ⟨c, ys, rfl, hqc, allc⟩ := dp_tup hu
          have lx := dpLen alla
          have ly := dpLen allc
          refine ⟨_, rfl, (by decide : 2 ≤ sizeLine), fun T nT => ?_⟩
          have s1 := same_upd (o := .tup [.ty "list", .ty "tuple"]) nT
          have hqa := sqT_same s1 hqa
          have hqc := sqT_same s1 hqc
          refine ⟨.ref c, T, _, .type "tuple", [.type "list", .type "tuple"], true, rfl, upd_same, .cons (.ty _) (.cons (.ty _) .nil), ty_tup hqc, kan (kit_ty (by decide +kernel)) (kay (kit_ty (by decide +kernel))), _, rfl, if_yes rfl ?_⟩
          refine ⟨_, rfl, .ref c, .ty "list", .type "tuple", .type "list", false, rfl, .ty _, ty_tup hqc, kit_ty (by decide +kernel), _, rfl, .ref a, .ty "list", .type "tuple", .type "list", false, rfl, .ty _, ty_tup hqa, kit_ty (by decide +kernel), rfl, _, rfl, if_no (by simp) ?_⟩
          refine ⟨_, rfl, .ref c, .ty "tuple", .type "tuple", .type "tuple", true, rfl, .ty _, ty_tup hqc, kit_ty (by decide +kernel), _, rfl, .ref a, .ty "tuple", .type "tuple", .type "tuple", true, rfl, .ty _, ty_tup hqa, kit_ty (by decide +kernel), rfl, _, rfl, if_no (by simp) ?_⟩
          refine ⟨_, rfl, a, xs, rfl, .inr hqa, _, rfl, c, ys, rfl, .inr hqc, rfl, _, rfl, if_yes (by rw [lx, ly]; simp) ?_⟩
          refine ⟨_, rfl, c, ys, rfl, .inr hqc, _, rfl, by omega, by omega, fun D hD => ?_⟩
          refine lc_it (walk_range (lo := 0) (n := ys.length)) (fun i H' => Same (L2.upd H T (.tup [.ty "list", .ty "tuple"])) H' ∧ H' D = some (.lst ((List.replicate i true).map V.bl))) ⟨same_upd hD, upd_same⟩ (fun _ _ _ _ => trivial) (fun i x H' H2 hi e y => ?_) (fun H' e => ?_)
          · obtain ⟨s2, hDt⟩ := e
            obtain ⟨rfl, rfl⟩ := y
            obtain ⟨d, hdi⟩ : ∃ d, ds[i]? = some d := ⟨_, List.getElem?_eq_getElem (by omega)⟩
            obtain ⟨x1, hx1, dx1⟩ := dpAt alla hdi
            obtain ⟨x2, hx2, dx2⟩ := dpAt allc hdi
            refine ⟨rfl, _, rfl, _, rfl, .inr (.inl ⟨a, xs, _, x1, rfl, rfl, sqT_same s2 hqa, by rw [Int.zero_add]; exact atI_nat hx1, _, rfl, _, rfl, .inr (.inl ⟨c, ys, _, x2, rfl, rfl, sqT_same s2 hqc, by rw [Int.zero_add]; exact atI_nat hx2, x1, x2, d, rfl, dp_same (s1.trans s2) dx1, dp_same (s1.trans s2) dx2, h3 d (List.mem_of_getElem? hdi), fun H3 s3 => ⟨_, s3 _ _ hDt, ?_, same_upd2 (s2.trans s3) hD, ?_⟩⟩)⟩)⟩
            · rw [List.length_map, List.length_replicate, sizeLine_eq]
              omega
            · rw [upd_same, List.replicate_succ', List.map_append]
              rfl
          · obtain ⟨s2, hDt⟩ := e
            refine ⟨D, _, rfl, SqL.of hDt, ?_⟩
            rw [show (List.replicate ys.length true).all id = true by rw [List.all_eq_true]; intro x m; exact List.eq_of_mem_replicate m]
            exact k _ (s1.trans s2)
end
end Qb
end PySem
namespace PySem
namespace Qb
open PySem.W PySem.Calls PyProof.Rows L2
def ixS (c : Nat) : Nat := (cs signsS).findIdx (· == c)
def bitS (c : Nat) : Int := 1 * 2 ^ ((ixS c : Nat) : Int).toNat
theorem ixS_lt : ∀ c ∈ cs signsS, ixS c < 95 := by decide +kernel
theorem occ_head : ∀ c ∈ cs signsS, (Builtin.Str.occurrences signsS (sg c) 0 signsS.length 1).head? = some (ixS c) := by decide +kernel
theorem occS {c : Nat} (h : c ∈ cs signsS) : ∃ rest, Builtin.Str.occurrences signsS (sg c) 0 signsS.length 1 = ixS c :: rest := by
  have z := occ_head c h
  cases e : Builtin.Str.occurrences signsS (sg c) 0 signsS.length 1 with
  | nil => rw [e] at z; cases z
  | cons i r => rw [e] at z; obtain rfl := Option.some.inj z; exact ⟨r, rfl⟩
theorem leastS : ∀ c ∈ cs signsS, atI (cs signsS) (((Builtin.Int.intBits (Builtin.bitAnd (bitS c) (-bitS c)) : Nat) : Int) - 1) = some c := by decide +kernel
theorem bitS_pos (c : Nat) : bitS c ≠ 0 := by
  unfold bitS
  rw [Int.one_mul]
  exact Int.ne_of_gt (Int.pow_pos (by decide))
theorem str_ext {x y : Str} (h : cs x = cs y) : x = y := by
  cases x; cases y
  simp only [cs] at h
  congr 1
  exact Array.toList_inj.mp h
theorem joinL_sg : ∀ l : List Nat, TL.joinL [] ((l.map sg).map TL.tl) = l
  | [] => rfl
  | [c] => rfl
  | c :: d :: r => by
    show [c] ++ ([] ++ TL.joinL [] (((d :: r).map sg).map TL.tl)) = _
    rw [joinL_sg (d :: r)]
    rfl
theorem join_sg (l : List Nat) : Txt.join "" (l.map sg) = (⟨l.toArray⟩ : Str) := by
  refine str_ext ?_
  rw [TL.join_eq]
  have e : cs (Str.join "" (l.map sg)) = TL.joinL [] ((l.map sg).map TL.tl) := TL.tl_join "" (l.map sg)
  rw [e, joinL_sg]
theorem sum_sg : ∀ l : List Nat, ((l.map sg).map (·.length)).sum = l.length
  | [] => rfl
  | c :: l => by
    rw [List.map_cons, List.map_cons, List.sum_cons, sum_sg l, List.length_cons]
    show 1 + _ = _
    omega
def spSo (K : Frag) : Sp := fun vs H Q _ => ∃ (v : V) (c : Nat), vs = [v] ∧ c ∈ cs signsS ∧ Dp K H v (Pt.one c).d ∧ ∀ H', Same H H' → Q (.int (bitS c)) H'
def spLs : Sp := fun vs H Q _ => ∃ c, vs = [.int (bitS c)] ∧ c ∈ cs signsS ∧ ∀ H', Same H H' → Q (.str (sg c)) H'
def spCp (K : Frag) : Sp := fun vs H Q _ => ∃ (a : Addr) (x : V) (ps : List Pt), vs = [.ref a] ∧ SqL K H a [x] ∧ Dp K H x (.list (ps.map Pt.d)) ∧ ps.length ≤ 1000 ∧ (∀ p ∈ ps, p.good ∧ p.few) ∧ ∀ H', Same H H' → Q .non H'
def spLt (K : Frag) : Sp := fun vs H Q _ => ∃ (v : V) (l : List Nat), vs = [v] ∧ Dp K H v (.list ((l.map Pt.one).map Pt.d)) ∧ l.length ≤ 300 ∧ (∀ c ∈ l, c ∈ cs signsS) ∧ ∀ H', Same H H' → Q (.str ⟨l.toArray⟩) H'
section
variable {P : Program} {w : World} {K : Frag} {mg : Str → Option Value} {base : Heap}
abbrev sSo : Stmt := top 9
abbrev nSo : List Str := ["piece", "sign", "no", "ranges", "found", "first", "last"]
theorem scSo : FnScope nSo ["piece"] (defScope sSo) := ⟨rfl, rfl, rfl, by decide +kernel, rfl, by decide +kernel, by decide +kernel⟩
theorem has_So {f : Addr} {fd : FuncData} (F : Fun K "set_of" "set_of" sSo f fd) (g : mg "set_of" = some (.ref f)) (B : Blt mg) (W : Wrt K w mg) :
    Has P w K mg base 1 "set_of" ["piece"] (spSo K) := by
  refine has_of F g (F.binds (ps := ["piece"]) fun _ _ _ _ _ _ us hl => match us, hl with | [_], _ => rfl) (F.ok scSo (fun vs H Q E h => ?_) (fun cdv A outer s H vs Q E hr h => ?_))
  · obtain ⟨v, c, rfl, _⟩ := h
    rfl
  · refine ⟨_, (pss_cons (ps_match (pv 0)
        (pcs_cons (is := [1]) scSo.nd (pp_seq rfl (pps_cons pp_lit (pps_cons pp_cap pps_nil))) (.cons ⟨rfl, .inl rfl, .inr rfl⟩ .nil)
          (pss_one (ps_ret (pe_op op_shl pe_int (pe_bm PySem.F.plainAttrs_str PySem.F.slot_str_index PySem.F.type_str_index mt_sindex (glob_str (by rfl) W.signs) (pa_cons (pv 1) pa_nil)))))
        pcs_never))
        (pss_one ps_never)), ?_⟩
    obtain ⟨v, c, rfl, hc, hd, k⟩ := h
    obtain ⟨a, rfl, hq⟩ := dp_two hd
    obtain ⟨rest, ho⟩ := occS hc
    have hl := ixS_lt c hc
    exact ⟨_, rfl, case_hit hq hit_lit ⟨rfl, _, rfl, signsS, sg c, ixS c, rest, rfl, rfl, ho, _, _, rfl, rfl, ⟨by omega, by omega, by decide⟩, k H (Same.refl H)⟩⟩
abbrev sLs : Stmt := top 10
abbrev nLs : List Str := ["signs"]
theorem scLs : FnScope nLs ["signs"] (defScope sLs) := ⟨rfl, rfl, rfl, by decide +kernel, rfl, by decide +kernel, by decide +kernel⟩
theorem has_Ls {f : Addr} {fd : FuncData} (F : Fun K "least_sign" "least_sign" sLs f fd) (g : mg "least_sign" = some (.ref f)) (B : Blt mg) (W : Wrt K w mg) :
    Has P w K mg base 1 "least_sign" ["signs"] spLs := by
  refine has_of F g (F.binds (ps := ["signs"]) fun _ _ _ _ _ _ us hl => match us, hl with | [_], _ => rfl) (F.ok scLs (fun vs H Q E h => ?_) (fun cdv A outer s H vs Q E hr h => ?_))
  · obtain ⟨c, rfl, _⟩ := h
    rfl
  · refine ⟨_, (pss_one (ps_ret (pe_ix ix_str (glob_str (by rfl) W.signs) (pe_op op_sub (pe_bits (pe_op op_and (pv 0) (pe_un un_neg (pv 0)))) pe_int) (fun _ _ => rfl)))), ?_⟩
    obtain ⟨c, rfl, hc, k⟩ := h
    exact ⟨_, rfl, _, rfl, _, rfl, _, _, rfl, rfl, _, rfl, _, _, rfl, rfl, signsS, _, c, rfl, rfl, small_line (by decide +kernel), leastS c hc, k H (Same.refl H)⟩
abbrev sCp : Stmt := top 16
abbrev nCp : List Str := ["patterns", "pattern"]
theorem scCp : FnScope nCp ["patterns"] (defScope sCp) := ⟨rfl, rfl, rfl, by decide +kernel, rfl, by decide +kernel, by decide +kernel⟩
theorem has_Cp {f : Addr} {fd : FuncData} (F : Fun K "check_patterns" "check_patterns" sCp f fd) (g : mg "check_patterns" = some (.ref f)) (B : Blt mg) (hPa : Has P w K mg base 4 "is_pattern" ["pattern"] (spPa K)) :
    Has P w K mg base 5 "check_patterns" ["patterns"] (spCp K) := by
  obtain ⟨fPa, dPa, gPa, kPa, bPa, GPa⟩ := hPa
  refine has_of F g (F.binds (ps := ["patterns"]) fun _ _ _ _ _ _ us hl => match us, hl with | [_], _ => rfl) (F.ok scCp (fun vs H Q E h => ?_) (fun cdv A outer s H vs Q E hr h => ?_))
  · obtain ⟨v, x, ps, rfl, _⟩ := h
    rfl
  · refine ⟨_, (pss_one (ps_for PassesOwn.never rfl (pi_list (pv 0)) (pg_name (i := 1) scCp.nd rfl (.inl rfl))
          (pss_one (ps_if (pt_not (pt_val (pe_call GPa hr rfl gPa kPa bPa .nil pass0 (pa_cons (pv 1) pa_nil)))) (pss_one (ps_never)) pss_nil)))), ?_⟩
    obtain ⟨a, x, ps, rfl, hq, hd, hl, hg, k⟩ := h
    refine ⟨_, rfl, a, rfl, ⟨_, hq⟩, for_list (xs := [x]) (fun i σ H' => Same H H' ∧ ∃ y, σ = [some (.ref a), y]) ⟨Same.refl H, _, rfl⟩ (fun i σ H' _ e => e.1.seq hq) (fun i x' σ H' hx e => ?_) (fun σ H' e => k H' e.1)⟩
    obtain ⟨s1, y, rfl⟩ := e
    have ei : i = 0 := by have := (List.getElem?_eq_some_iff.mp hx).1; simp at this; exact this
    subst ei
    obtain rfl := Option.some.inj hx
    exact ⟨_, rfl, x, ps, rfl, dp_same s1 hd, hl, hg, fun H2 s2 => ⟨_, rfl, if_no rfl ⟨s1.trans s2, _, rfl⟩⟩⟩
theorem eqv_one_lot (c : Nat) : PyData.eqv (Pt.one c).d (.tuple [.str "lot"]) = false := by
  rfl
abbrev sLt : Stmt := top 22
abbrev nLt : List Str := ["pattern", "sets", "piece", "signs"]
theorem scLt : FnScope nLt ["pattern"] (defScope sLt) := ⟨rfl, rfl, rfl, by decide +kernel, rfl, by decide +kernel, by decide +kernel⟩
theorem has_Lt {f : Addr} {fd : FuncData} (F : Fun K "least_text" "least_text" sLt f fd) (g : mg "least_text" = some (.ref f)) (B : Blt mg) (hCp : Has P w K mg base 5 "check_patterns" ["patterns"] (spCp K)) (hSo : Has P w K mg base 1 "set_of" ["piece"] (spSo K)) (hLs : Has P w K mg base 1 "least_sign" ["signs"] spLs) :
    FnOk P w K mg base CX0 6 f fd ["pattern"] (spLt K) := by
  obtain ⟨fCp, dCp, gCp, kCp, bCp, GCp⟩ := hCp
  obtain ⟨fSo, dSo, gSo, kSo, bSo, GSo⟩ := hSo
  obtain ⟨fLs, dLs, gLs, kLs, bLs, GLs⟩ := hLs
  refine (F.ok scLt (fun vs H Q E h => ?_) (fun cdv A outer s H vs Q E hr h => ?_))
  · obtain ⟨v, cs, rfl, _⟩ := h
    rfl
  · refine ⟨_, (pss_cons (ps_expr (pe_call GCp hr rfl gCp kCp bCp .nil pass0 (pa_cons (pe_lst (pa_cons (pv 0) pa_nil)) pa_nil)))
        (pss_cons (ps_setLc (tt := tTest (tOp (rNeD K) (tVar 2) (tTup (tCons (tC (V.str "lot")) tNil)))) (i := 1) (own := [("piece", 2)]) (g := gName 2) rfl scLt.nd rfl rfl (sw_true rfl rfl rfl (by decide +kernel)) (pi_list (pv 0)) (blkOk_by (N := nLt) (sc := defScope sLt) (by decide +kernel)) (fun _ _ _ _ _ => pg_name (i := 2) scLt.nd rfl (.inl rfl)) (fun _ _ _ _ _ => pts_one (pt_cmpR (op_neD hr.units) (pv 2) (pe_tup (pa_cons pe_str pa_nil)) (nomark _))) (fun _ _ _ _ _ => (pe_call GSo (hr.mono (by decide)) rfl gSo kSo bSo .nil pass0 (pa_cons (pv 2) pa_nil))))
        (pss_cons (ps_if (pt_cmpR op_in_seq pe_int (pv 1) (by rfl)) (pss_one (ps_ret pe_non)) pss_nil)
        (pss_one (ps_ret (pe_join pe_str (pe_lc (own := [("signs", 3)]) (g := gName 3) (tt := tYes) rfl scLt.nd (pi_list (pv 1)) (blkOk_by (N := nLt) (sc := defScope sLt) (by decide +kernel)) (fun _ _ _ _ _ => pg_name (i := 3) scLt.nd rfl (.inl rfl)) (fun _ _ _ _ _ => pts_nil) (fun _ _ _ _ _ => (pe_call GLs (hr.mono (by decide)) rfl gLs kLs bLs .nil pass0 (pa_cons (pv 3) pa_nil)))))))))), ?_⟩
    obtain ⟨v, l, rfl, hd, hl, hs, k⟩ := h
    obtain ⟨a, xs, rfl, hq, all⟩ := dp_lst hd
    have lx := dpLen all
    rw [List.length_map, List.length_map] at lx
    refine ⟨_, rfl, (by decide : 1 ≤ sizeLine), fun L nL => ?_⟩
    have s1 := same_upd (o := .lst [V.ref a]) nL
    refine ⟨L, .ref a, l.map Pt.one, rfl, SqL.of upd_same, dp_same s1 hd, by rw [List.length_map]; omega, fun p m => ?_, fun H2 s2 => ?_⟩
    · obtain ⟨c, mc, rfl⟩ := List.mem_map.mp m
      exact ⟨hs c mc, trivial⟩
    have s3 := s1.trans s2
    refine ⟨_, rfl, a, rfl, ⟨_, s3.seq hq⟩, fun D hD => lc_it (walk_list (xs := xs)) (fun i H' => Same H2 H' ∧ H' D = some (.lst (((l.take i).map bitS).map V.int))) ⟨same_upd hD, upd_same⟩ (fun i H' _ e => (s3.trans e.1).seq hq) (fun i x H' H4 hi e y => ?_) (fun H' e => ?_)⟩
    · obtain ⟨rfl, hx⟩ := y
      obtain ⟨s4, hDt⟩ := e
      obtain ⟨d, hdi, dp⟩ := dpAt' all hx
      obtain ⟨c, hc, rfl⟩ : ∃ c, l[i]? = some c ∧ (Pt.one c).d = d := by
        rw [List.getElem?_map, List.getElem?_map] at hdi
        cases z : l[i]? with
        | none => rw [z] at hdi; cases hdi
        | some c => rw [z] at hdi; exact ⟨c, rfl, Option.some.inj hdi⟩
      have cS := hs c (List.mem_of_getElem? hc)
      refine ⟨rfl, _, rfl, (by decide : 1 ≤ sizeLine), fun T nT => ?_⟩
      have s5 := same_upd (o := .tup [.str "lot"]) nT
      have dp5 := dp_same ((s3.trans s4).trans s5) dp
      refine ⟨_, _, dp5, .tup (SqT.of upd_same) (.cons (.str _) .nil), ?_, by decide +kernel, _, rfl, if_yes (by rw [eqv_one_lot]; rfl) ?_⟩
      · exact sh_ok (n := 1) (sh_tup fun d m => by
          rcases List.mem_cons.mp m with rfl | m
          · exact sh_str (by decide +kernel)
          · rcases List.mem_singleton.mp m with rfl
            exact sh_str (str_ok_sg cS))
      · refine ⟨_, rfl, x, c, rfl, cS, dp5, fun H6 s6 => ⟨_, s6 _ _ (s5 _ _ hDt), ?_, same_upd2 ((s4.trans s5).trans s6) hD, ?_⟩⟩
        · rw [List.length_map, List.length_map, List.length_take, sizeLine_eq]
          omega
        · rw [upd_same, take_snoc hc, List.map_append, List.map_append]
          rfl
    · obtain ⟨s4, hDt⟩ := e
      rw [lx, List.take_length] at hDt
      refine ⟨_, rfl, D, _, rfl, .inl (SqL.of hDt), rfl, ?_, _, rfl, if_no ?_ ?_⟩
      · rw [List.all_eq_true]
        intro x m
        obtain ⟨i, _, rfl⟩ := List.mem_map.mp m
        rfl
      · unfold inV
        rw [if_neg (by decide), List.any_eq_false]
        intro x m
        obtain ⟨i, mi, rfl⟩ := List.mem_map.mp m
        obtain ⟨c, _, rfl⟩ := List.mem_map.mp mi
        show ¬ (bitS c == 0) = true
        simpa using bitS_pos c
      · have s5 := s3.trans s4
        refine ⟨⟨_, rfl⟩, _, rfl, D, rfl, ⟨_, SqL.of hDt⟩, fun D2 hD2 => lc_it (walk_list (xs := (l.map bitS).map V.int)) (fun i H6 => Same H' H6 ∧ H6 D2 = some (.lst (((l.take i).map sg).map V.str))) ⟨same_upd hD2, upd_same⟩ (fun i H6 _ e => e.1.seq (SqL.of hDt)) (fun i x H6 H7 hi e y => ?_) (fun H6 e => ?_)⟩
        · obtain ⟨rfl, hx⟩ := y
          obtain ⟨s6, hD6⟩ := e
          obtain ⟨c, hc, rfl⟩ : ∃ c, l[i]? = some c ∧ V.int (bitS c) = x := by
            rw [List.getElem?_map, List.getElem?_map] at hx
            cases z : l[i]? with
            | none => rw [z] at hx; cases hx
            | some c => rw [z] at hx; exact ⟨c, rfl, Option.some.inj hx⟩
          have cS := hs c (List.mem_of_getElem? hc)
          refine ⟨rfl, _, rfl, c, rfl, cS, fun H8 s8 => ⟨_, s8 _ _ hD6, ?_, same_upd2 (s6.trans s8) hD2, ?_⟩⟩
          · rw [List.length_map, List.length_map, List.length_take, sizeLine_eq]
            omega
          · rw [upd_same, take_snoc hc, List.map_append, List.map_append]
            rfl
        · obtain ⟨s6, hD6⟩ := e
          rw [List.length_map, List.length_map, List.take_length] at hD6
          refine ⟨"", D2, l.map sg, rfl, rfl, .inl (SqL.of hD6), ?_, ?_⟩
          · have e1 := sum_sg l
            rw [e1, List.length_map]
            show _ + _ * 0 ≤ _
            omega
          · rw [join_sg]
            exact k _ (s5.trans s6)
end
end Qb
end PySem
namespace PySem
namespace Qb
open PySem.W PySem.Calls PyProof.Rows L2
/-! # what the law draws -/
def Pu (H : Hp) (p : Addr) (n : Nat) : Prop := ∃ a b c : Int, H p = some (.lst [.int a, .int b, .int c]) ∧ 0 ≤ a ∧ 0 ≤ b ∧ b < 10 ^ 24 + 7 ∧ 0 ≤ c ∧ c ≤ n
theorem Pu.same {H H' : Hp} {p : Addr} {n : Nat} (h : Pu H p n) (s : Same H H') : Pu H' p n := by
  obtain ⟨a, b, c, e, r⟩ := h
  exact ⟨a, b, c, s _ _ e, r⟩
theorem Pu.le {H : Hp} {p : Addr} {n m : Nat} (h : Pu H p n) (l : n ≤ m) : Pu H p m := by
  obtain ⟨a, b, c, e, r1, r2, r3, r4, r5⟩ := h
  exact ⟨a, b, c, e, r1, r2, r3, r4, by omega⟩
def spPu (K : Frag) : Sp := fun vs H Q _ => ∃ (a : Addr) (ns : List Int) (i : Nat), vs = [.ref a, .int (i : Nat)] ∧ SqL K H a (ns.map V.int) ∧ ns.length ≤ 63 ∧ ∀ H' p, Same H H' → H p = none → Pu H' p 0 → Q (.ref p) H'
def spCo : Sp := fun vs H Q _ => ∃ (p : Addr) (m n : Nat), vs = [.ref p, .int (m : Nat)] ∧ 0 < m ∧ m ≤ 1000 ∧ n ≤ 10000 ∧ Pu H p n ∧ ∀ (H' : Hp) (r : Nat), r < m → Pu H' p (n + 1) → (∀ b, b ≠ p → H' b = H b) → Q (.int (r : Nat)) H'
def spAl : Sp := fun vs H Q _ => vs = [] ∧ Q (.str signsS) H
section
variable {P : Program} {w : World} {K : Frag} {mg : Str → Option Value} {base : Heap}
abbrev sPu : Stmt := top 24
abbrev nPu : List Str := ["_law_script", "_law_at", "_law_cell"]
theorem scPu : FnScope nPu ["_law_script", "_law_at"] (defScope sPu) := ⟨rfl, rfl, rfl, by decide +kernel, rfl, by decide +kernel, by decide +kernel⟩
theorem has_Pu {f : Addr} {fd : FuncData} (F : Fun K "_law_purse" "_law_purse" sPu f fd) (g : mg "_law_purse" = some (.ref f)) (B : Blt mg)  :
    Has P w K mg base 1 "_law_purse" ["_law_script", "_law_at"] (spPu K) := by
  refine has_of F g (F.binds (ps := ["_law_script", "_law_at"]) fun _ _ _ _ _ _ us hl => match us, hl with | [_, _], _ => rfl) (F.ok scPu (fun vs H Q E h => ?_) (fun cdv A outer s H vs Q E hr h => ?_))
  · obtain ⟨a, ns, i, rfl, _⟩ := h
    rfl
  · refine ⟨_, (pss_cons (ps_set (i := 2) scPu.nd rfl (.inl rfl) (pe_ifExp (pt_cmpR op_lt (pv 1) (pe_callB call_len_seq (by rfl) B.len PySem.boot_len (pa_cons (pv 0) pa_nil)) (nomark _)) (pe_ix ix_list (pv 0) (pv 1) (fun _ _ => rfl)) pe_int))
        (pss_one (ps_ret (pe_lst (pa_cons (pe_callB (call_max2 rfl) (by rfl) B.max (by decide +kernel) (pa_cons pe_int (pa_cons (pe_op op_sub (pe_callB call_abs (by rfl) B.abs (by decide +kernel) (pa_cons (pv 2) pa_nil)) (pe_op op_pow pe_int pe_int)) pa_nil))) (pa_cons (pe_op op_modN (pe_callTy call_int1 (by rfl) B.int (by decide +kernel) (pa_cons (pe_op op_add (pe_op op_add (pe_op op_mul (pv 2) pe_int) (pe_op op_mul (pv 1) pe_int)) pe_int) pa_nil)) (pe_op op_add (pe_op op_pow pe_int pe_int) pe_int)) (pa_cons pe_int pa_nil))))))), ?_⟩
    obtain ⟨a, ns, i, rfl, hq, hl, k⟩ := h
    have m24 : (10 : Int) ^ (24 : Int).toNat + 7 = 10 ^ 24 + 7 := rfl
    refine ⟨_, rfl, _, rfl, a, _, rfl, .inl hq, _, _, rfl, rfl, _, rfl, if_by (fun e => ⟨_, rfl, _, rfl, a, _, _, .int (ns[i]'(by have := of_decide_eq_true e; rw [List.length_map] at this; omega)), rfl, rfl, hq, atI_nat (by rw [List.getElem?_map, List.getElem?_eq_getElem (by have := of_decide_eq_true e; rw [List.length_map] at this; omega)]; rfl), ?_⟩) (fun e => ?_)⟩
    all_goals
      refine ⟨_, rfl, _, rfl, _, _, rfl, rfl, ⟨by decide, by decide, by decide⟩, _, _, rfl, rfl, _, _, rfl, ?_⟩
      refine ⟨_, rfl, _, _, rfl, rfl, .inr ⟨by decide, by decide⟩, _, rfl, _, _, rfl, rfl, .inr ⟨by decide, by decide⟩, _, _, rfl, rfl, _, _, rfl, rfl, .inl ⟨_, rfl, _, _, rfl, rfl, ⟨by decide, by decide, by decide⟩, _, _, rfl, rfl, _, _, rfl, rfl, by show (_ : Int) ≠ 0; decide, (by decide : 3 ≤ sizeLine), fun p np => ?_⟩⟩
      refine k _ p (same_upd np) np ⟨_, _, _, upd_same, ?_, fm0 (by decide) _, fm1 (by decide) _, by decide, by decide⟩
      split <;> omega
abbrev sCo : Stmt := top 25
abbrev nCo : List Str := ["_law_purse_here", "_law_many", "_law_coin_here", "_law_stirred"]
theorem scCo : FnScope nCo ["_law_purse_here", "_law_many"] (defScope sCo) := ⟨rfl, rfl, rfl, by decide +kernel, rfl, by decide +kernel, by decide +kernel⟩
theorem has_Co {f : Addr} {fd : FuncData} (F : Fun K "_law_coin" "_law_coin" sCo f fd) (g : mg "_law_coin" = some (.ref f)) (B : Blt mg)  :
    Has P w K mg base 1 "_law_coin" ["_law_purse_here", "_law_many"] spCo := by
  refine has_of F g (F.binds (ps := ["_law_purse_here", "_law_many"]) fun _ _ _ _ _ _ us hl => match us, hl with | [_, _], _ => rfl) (F.ok scCo (fun vs H Q E h => ?_) (fun cdv A outer s H vs Q E hr h => ?_))
  · obtain ⟨p, m, n, rfl, _⟩ := h
    rfl
  · refine ⟨_, (pss_cons (ps_if (pt_cmpR op_gt (pe_ix ix_list (pv 0) pe_int (fun _ _ => rfl)) pe_int (nomark _)) (pss_cons (ps_set (i := 2) scCo.nd rfl (.inl rfl) (pe_op op_modN (pe_callTy call_int1 (by rfl) B.int (by decide +kernel) (pa_cons (pe_ix ix_list (pv 0) pe_int (fun _ _ => rfl)) pa_nil)) (pv 1)))
          (pss_cons (ps_asg (pe_op op_fdivW (pe_ix ix_list (pv 0) pe_int (fun _ _ => rfl)) (pv 1)) (pg_sub (pv 0) pe_int set_list))
          (pss_one (ps_ret (pv 2))))) pss_nil)
        (pss_cons (ps_asg (pe_op op_add (pe_ix ix_list (pv 0) pe_int (fun _ _ => rfl)) pe_int) (pg_sub (pv 0) pe_int set_list))
        (pss_cons (ps_set (i := 3) scCo.nd rfl (.inl rfl) (pe_op op_add (pe_ix ix_list (pv 0) pe_int (fun _ _ => rfl)) (pe_op op_mul pe_int (pe_ix ix_list (pv 0) pe_int (fun _ _ => rfl)))))
        (pss_cons (ps_set (i := 3) scCo.nd rfl (.inl rfl) (pe_op op_modN (pe_callTy call_int1 (by rfl) B.int (by decide +kernel) (pa_cons (pe_op op_add (pe_op op_mulW (pv 3) (pv 3)) (pe_ix ix_list (pv 0) pe_int (fun _ _ => rfl))) pa_nil)) (pe_op op_add (pe_op op_pow pe_int pe_int) pe_int)))
        (pss_cons (ps_set (i := 3) scCo.nd rfl (.inl rfl) (pe_op op_modN (pe_callTy call_int1 (by rfl) B.int (by decide +kernel) (pa_cons (pe_op op_add (pe_op op_mul (pe_op op_mulW (pv 3) (pv 3)) pe_int) (pv 3)) pa_nil)) (pe_op op_add (pe_op op_pow pe_int pe_int) pe_int)))
        (pss_one (ps_ret (pe_op op_modN (pe_callTy call_int1 (by rfl) B.int (by decide +kernel) (pa_cons (pe_op op_fdivW (pv 3) pe_int) pa_nil)) (pv 1))))))))), ?_⟩
    obtain ⟨p, m, n, rfl, m0, m1, hn, ⟨x, y, z, hp, x0, y0, y1, z0, z1⟩, k⟩ := h
    have hpL : SqL K H p [V.int x, V.int y, V.int z] := SqL.of hp
    have mi : (0 : Int) < (m : Nat) := by omega
    have fin : ∀ (H' : Hp) (r : Int), 0 ≤ r → r < (m : Nat) → Pu H' p (n + 1) → (∀ b, b ≠ p → H' b = H b) → Q (.int r) H' := fun H' r r0 r1 u off => by
      have z := k H' r.toNat (by omega) u off
      rw [show ((r.toNat : Nat) : Int) = r by omega] at z
      exact z
    refine ⟨_, rfl, p, _, _, _, rfl, rfl, hpL, rfl, _, _, rfl, rfl, _, rfl, if_by (fun e => ?_) (fun e => ?_)⟩
    · refine ⟨_, rfl, p, _, _, _, rfl, rfl, hpL, rfl, .inl ⟨_, rfl, _, rfl, _, _, rfl, rfl, Int.ne_of_gt mi, ?_⟩⟩
      refine ⟨_, rfl, p, _, _, _, rfl, rfl, hpL, rfl, _, rfl, _, _, rfl, rfl, wide_div (b := 200) mi (by omega) (by decide) (by decide), _, rfl, p, _, _, 0, rfl, rfl, hp, rfl, ?_⟩
      refine ⟨_, rfl, fin _ _ (fm0 mi _) (fm1 mi _) ⟨_, _, _, upd_same, Int.ediv_nonneg x0 (by omega), y0, y1, z0, by omega⟩ fun b h => upd_ne h⟩
    · refine ⟨_, rfl, p, _, _, _, rfl, rfl, hpL, rfl, _, _, rfl, rfl, _, rfl, p, _, _, 2, rfl, rfl, hp, rfl, ?_⟩
      have hp1 : (L2.upd H p (.lst [.int x, .int y, .int (z + 1)])) p = some (.lst [.int x, .int y, .int (z + 1)]) := upd_same
      have hp1L : SqL K (L2.upd H p (.lst [.int x, .int y, .int (z + 1)])) p [V.int x, V.int y, V.int (z + 1)] := SqL.of hp1
      refine ⟨_, rfl, p, _, _, _, rfl, rfl, hp1L, rfl, _, rfl, p, _, _, _, rfl, rfl, hp1L, rfl, _, _, rfl, rfl, .inl ⟨by decide, by decide⟩, _, _, rfl, rfl, ?_⟩
      have b1 : 0 ≤ y + 362437 * (z + 1) ∧ y + 362437 * (z + 1) < 2 ^ 90 := by
        have e1 : (10 : Int) ^ 24 + 7 < 2 ^ 89 := by decide
        have e2 : (2 : Int) ^ 90 = 2 ^ 89 + 2 ^ 89 := by decide
        have e3 : (362437 * 20000 : Int) < 2 ^ 89 := by decide
        omega
      refine ⟨_, rfl, _, rfl, _, _, rfl, rfl, wide_mul (a := 100) (b := 100) (by omega) (by omega) (by decide) (by decide) (by decide), _, rfl, p, _, _, _, rfl, rfl, hp1L, rfl, _, _, rfl, rfl, .inl ⟨_, rfl, _, _, rfl, rfl, ⟨by decide, by decide, by decide⟩, _, _, rfl, rfl, _, _, rfl, rfl, by show (_ : Int) ≠ 0; decide, ?_⟩⟩
      have t0 : 0 ≤ ((y + 362437 * (z + 1)) * (y + 362437 * (z + 1)) + (z + 1)).fmod (10 ^ Int.toNat 25 + 13) := fm0 (by decide) _
      have t2 : ((y + 362437 * (z + 1)) * (y + 362437 * (z + 1)) + (z + 1)).fmod (10 ^ Int.toNat 25 + 13) < 2 ^ 90 := Int.lt_trans (fm1 (by decide) _) (by decide)
      refine ⟨_, rfl, _, rfl, _, _, rfl, rfl, wide_mul (a := 100) (b := 100) (by omega) (by omega) (by decide) (by decide) (by decide), _, _, rfl, rfl, .inr ⟨by decide, by decide⟩, _, rfl, _, _, rfl, rfl, .inl ⟨_, rfl, _, _, rfl, rfl, ⟨by decide, by decide, by decide⟩, _, _, rfl, rfl, _, _, rfl, rfl, by show (_ : Int) ≠ 0; decide, ?_⟩⟩
      refine ⟨_, rfl, _, _, rfl, rfl, wide_div (j := 1000) (b := 200) (by decide) (by decide) (by decide) (by decide), .inl ⟨_, rfl, _, rfl, _, _, rfl, rfl, Int.ne_of_gt mi, ?_⟩⟩
      exact fin _ _ (fm0 mi _) (fm1 mi _) ⟨_, _, _, upd_same, x0, y0, y1, by omega, by omega⟩ fun b h => upd_ne h
abbrev sAl : Stmt := top 27
abbrev nAl : List Str := ["_law_early"]
theorem scAl : FnScope nAl [] (defScope sAl) := ⟨rfl, rfl, rfl, by decide +kernel, rfl, by decide +kernel, by decide +kernel⟩
theorem has_Al {f : Addr} {fd : FuncData} (F : Fun K "_law_signs" "_law_signs" sAl f fd) (g : mg "_law_signs" = some (.ref f)) (B : Blt mg)  :
    Has P w K mg base 1 "_law_signs" [] spAl := by
  refine has_of F g (F.binds (ps := []) fun _ _ _ _ _ _ us hl => match us, hl with | [], _ => rfl) (F.ok scAl (fun vs H Q E h => ?_) (fun cdv A outer s H vs Q E hr h => ?_))
  · obtain ⟨rfl, _⟩ := h
    rfl
  · refine ⟨_, (pss_cons (ps_set (i := 0) scAl.nd rfl (.inl rfl) pe_str)
        (pss_one (ps_ret (pe_op op_add_str (pv 0) pe_str)))), ?_⟩
    obtain ⟨rfl, k⟩ := h
    refine ⟨_, rfl, _, _, rfl, rfl, small_line (by decide +kernel), ?_⟩
    exact k
end
end Qb
end PySem
namespace PySem
namespace Qb
open PySem.W PySem.Calls PyProof.Rows L2
/-! # pairs that are drawn -/
theorem offs {p : Addr} {H H' : Hp} (off : ∀ b, b ≠ p → H' b = H b) : Same (hide H p) (hide H' p) := fun b o h => by
  unfold hide at h ⊢
  by_cases e : b = p
  · rw [if_pos e] at h; cases h
  · rw [if_neg e] at h ⊢
    rw [off b e]
    exact h
def BldP (K : Frag) (p : Addr) (H H' : Hp) (R : Addr) (ds : List PyData) : Prop := H R = none ∧ R ≠ p ∧ Same (hide H p) (hide (hide H' R) p) ∧ ∃ ys, H' R = some (.lst ys) ∧ DpAll K (hide (hide H' R) p) ys ds
theorem hide_comm {H : Hp} {a b : Addr} : hide (hide H a) b = hide (hide H b) a := by
  funext c
  unfold hide
  by_cases e : c = b
  · rw [if_pos e]
    by_cases e2 : c = a
    · rw [if_pos e2]
    · rw [if_neg e2, if_pos e]
  · rw [if_neg e]
    by_cases e2 : c = a
    · rw [if_pos e2, if_pos e2]
    · rw [if_neg e2, if_neg e2, if_neg e]
theorem BldP.new {K : Frag} {p R : Addr} {H : Hp} (n : H R = none) (ne : R ≠ p) : BldP K p H (L2.upd H R (.lst [])) R [] :=
  ⟨n, ne, hide_mono (hide_of (same_upd n) n), [], upd_same, .nil⟩
theorem BldP.same {K : Frag} {p R : Addr} {H H1 H2 : Hp} {ds : List PyData} (b : BldP K p H H1 R ds) (s : Same H1 H2) : BldP K p H H2 R ds := by
  obtain ⟨n, ne, s0, ys, h, a⟩ := b
  exact ⟨n, ne, s0.trans (hide_mono (hide_mono s)), ys, s _ _ h, dpAll_same (hide_mono (hide_mono s)) a⟩
theorem BldP.draw {K : Frag} {p R : Addr} {H H1 H2 : Hp} {ds : List PyData} (b : BldP K p H H1 R ds) (off : ∀ b, b ≠ p → H2 b = H1 b) : BldP K p H H2 R ds := by
  obtain ⟨n, ne, s0, ys, h, a⟩ := b
  have s : Same (hide (hide H1 R) p) (hide (hide H2 R) p) := by
    rw [hide_comm (a := R), hide_comm (a := R)]
    exact hide_mono (offs off)
  exact ⟨n, ne, s0.trans s, ys, by rw [off R ne]; exact h, dpAll_same s a⟩
theorem BldP.put {K : Frag} {p R : Addr} {H H1 : Hp} {ds : List PyData} (b : BldP K p H H1 R ds) : ∃ ys, H1 R = some (.lst ys) ∧ ys.length = ds.length ∧ ∀ v d, Dp K (hide (hide H1 R) p) v d → BldP K p H (L2.upd H1 R (.lst (ys ++ [v]))) R (ds ++ [d]) := by
  obtain ⟨n, ne, s0, ys, h, a⟩ := b
  exact ⟨ys, h, dpLen a, fun v d hd => ⟨n, ne, s0.trans (hide_mono hide_upd), _, upd_same, dpApp (dpAll_same (hide_mono hide_upd) a) (.cons (dp_same (hide_mono hide_upd) hd) .nil)⟩⟩
theorem BldP.two {K : Frag} {p R T : Addr} {H H1 : Hp} {ds : List PyData} (b : BldP K p H H1 R ds) {o : HO} (hp : H1 p = some o) (n : H1 T = none) (x y : Str) : Dp K (hide (hide (L2.upd H1 T (.tup [.str x, .str y])) R) p) (.ref T) (.tuple [.str x, .str y]) := by
  obtain ⟨_, ne, s0, ys, h, a⟩ := b
  exact .tup (SqT.of (hide_ne (hide_ne upd_same (fun e => by rw [e, h] at n; cases n)) (fun e => by rw [e, hp] at n; cases n))) (.cons (.str _) (.cons (.str _) .nil))
theorem pick_of (ws : List Str) {r : Nat} (h : r < ws.length) : ∃ x ∈ ws, (ws.map V.str)[r]? = some (V.str x) := ⟨ws[r], List.getElem_mem h, by rw [List.getElem?_map, List.getElem?_eq_getElem h]; rfl⟩
theorem pick_cs (z : Str) {r : Nat} (h : r < z.length) : ∃ c ∈ cs z, (cs z)[r]? = some c := by
  rw [len_cs] at h
  exact ⟨(cs z)[r], List.getElem_mem h, List.getElem?_eq_getElem h⟩
theorem Pu.put {H : Hp} {p a : Addr} {n : Nat} {o : HO} (h : Pu H p n) (ne : a ≠ p) : Pu (L2.upd H a o) p n := by
  obtain ⟨x, y, z, e, r⟩ := h
  exact ⟨x, y, z, by rw [upd_ne (Ne.symm ne)]; exact e, r⟩
theorem Pu.some {H : Hp} {p : Addr} {n : Nat} (h : Pu H p n) : ∃ o, H p = some o := by
  obtain ⟨x, y, z, e, r⟩ := h
  exact ⟨_, e⟩
theorem Pu.ne {H : Hp} {p a : Addr} {n : Nat} (h : Pu H p n) (e : H a = none) : a ≠ p := fun z => by
  obtain ⟨o, h⟩ := h.some
  rw [z, h] at e
  cases e
def spPr (K : Frag) : Sp := fun vs H Q _ => ∃ (p : Addr) (n : Nat), vs = [.ref p] ∧ n ≤ 9000 ∧ Pu H p n ∧ ∀ (H' : Hp) (R : Addr) (ps : List Pr), BldP K p H H' R (ps.map prD) → ps.length ≤ 7 → (∀ q ∈ ps, okPr q) → Q (.ref R) H'
abbrev wMk : List Str := ["bare", "loose", "bare", "firm"]
abbrev wEm : List Str := ["firm", "cut"]
section
variable {P : Program} {w : World} {K : Frag} {mg : Str → Option Value} {base : Heap}
abbrev sPr : Stmt := top 28
abbrev nPr : List Str := ["_law_purse_here", "_law_pairs_here", "_law_turn", "_law_way", "_law_mark"]
theorem scPr : FnScope nPr ["_law_purse_here"] (defScope sPr) := ⟨rfl, rfl, rfl, by decide +kernel, rfl, by decide +kernel, by decide +kernel⟩
theorem has_Pr {f : Addr} {fd : FuncData} (F : Fun K "_law_pairs" "_law_pairs" sPr f fd) (g : mg "_law_pairs" = some (.ref f)) (B : Blt mg) (hCo : Has P w K mg base 1 "_law_coin" ["_law_purse_here", "_law_many"] spCo) (hAl : Has P w K mg base 1 "_law_signs" [] spAl) :
    Has P w K mg base 2 "_law_pairs" ["_law_purse_here"] (spPr K) := by
  obtain ⟨fCo, dCo, gCo, kCo, bCo, GCo⟩ := hCo
  obtain ⟨fAl, dAl, gAl, kAl, bAl, GAl⟩ := hAl
  refine has_of F g (F.binds (ps := ["_law_purse_here"]) fun _ _ _ _ _ _ us hl => match us, hl with | [_], _ => rfl) (F.ok scPr (fun vs H Q E h => ?_) (fun cdv A outer s H vs Q E hr h => ?_))
  · obtain ⟨p, n, rfl, _⟩ := h
    rfl
  · refine ⟨_, (pss_cons (ps_set (i := 1) scPr.nd rfl (.inl rfl) (pe_lst pa_nil))
        (pss_cons (ps_for PassesOwn.never rfl (pi_range1 (by rfl) B.range (pa_cons (pe_call GCo hr rfl gCo kCo bCo .nil pass0 (pa_cons (pv 0) (pa_cons pe_int pa_nil))) pa_nil)) (pg_name (i := 2) scPr.nd rfl (.inl rfl))
          (pss_cons (ps_set (i := 3) scPr.nd rfl (.inl rfl) (pe_call GCo hr rfl gCo kCo bCo .nil pass0 (pa_cons (pv 0) (pa_cons pe_int pa_nil))))
          (pss_cons (ps_set (i := 4) scPr.nd rfl (.inl rfl) (pe_ix ix_list (pe_lst (pa_cons pe_str (pa_cons pe_str (pa_cons pe_str (pa_cons pe_str pa_nil))))) (pe_call GCo hr rfl gCo kCo bCo .nil pass0 (pa_cons (pv 0) (pa_cons pe_int pa_nil))) (fun _ _ => rfl)))
          (pss_one (ps_if (pt_cmpR op_eq (pv 3) pe_int (nomark _)) (pss_one (ps_expr (pe_bm PySem.F.plainAttrs_list PySem.F.slot_list_append PySem.F.type_list_append mt_append (pv 1) (pa_cons (pe_tup (pa_cons pe_str (pa_cons (pe_ix ix_list (pe_lst (pa_cons pe_str (pa_cons pe_str pa_nil))) (pe_call GCo hr rfl gCo kCo bCo .nil pass0 (pa_cons (pv 0) (pa_cons pe_int pa_nil))) (fun _ _ => rfl)) pa_nil))) pa_nil)))) (pss_one (ps_if (pt_cmpR op_lt (pv 3) pe_int (nomark _)) (pss_one (ps_expr (pe_bm PySem.F.plainAttrs_list PySem.F.slot_list_append PySem.F.type_list_append mt_append (pv 1) (pa_cons (pe_tup (pa_cons (pe_ix ix_str pe_str (pe_call GCo hr rfl gCo kCo bCo .nil pass0 (pa_cons (pv 0) (pa_cons pe_int pa_nil))) (fun _ _ => rfl)) (pa_cons (pv 4) pa_nil))) pa_nil)))) (pss_one (ps_if (pt_cmpR op_lt (pv 3) pe_int (nomark _)) (pss_one (ps_expr (pe_bm PySem.F.plainAttrs_list PySem.F.slot_list_append PySem.F.type_list_append mt_append (pv 1) (pa_cons (pe_tup (pa_cons (pe_ix ix_str pe_str (pe_call GCo hr rfl gCo kCo bCo .nil pass0 (pa_cons (pv 0) (pa_cons pe_int pa_nil))) (fun _ _ => rfl)) (pa_cons (pv 4) pa_nil))) pa_nil)))) (pss_one (ps_expr (pe_bm PySem.F.plainAttrs_list PySem.F.slot_list_append PySem.F.type_list_append mt_append (pv 1) (pa_cons (pe_tup (pa_cons (pe_ix ix_str (pe_call0 GAl hr rfl gAl kAl bAl .nil pass0) (pe_call GCo hr rfl gCo kCo bCo .nil pass0 (pa_cons (pv 0) (pa_cons pe_int pa_nil))) (fun _ _ => rfl)) (pa_cons (pv 4) pa_nil))) pa_nil)))))))))))))
        (pss_one (ps_ret (pv 1))))), ?_⟩
    obtain ⟨p, n, rfl, hn, hp, k⟩ := h
    refine ⟨(by decide : 0 ≤ sizeLine), fun R nR => ?_⟩
    have ne := hp.ne nR
    have b0 : BldP K p H (L2.upd H R (.lst [])) R [] := BldP.new nR ne
    refine ⟨_, rfl, p, 8, n, rfl, by decide, by decide, by omega, hp.put ne, fun H1 r hr8 hp1 off1 => ?_⟩
    have b1 := b0.draw off1
    refine ⟨_, rfl, by omega, by omega, ?_⟩
    refine for_range (lo := 0) (n := r) (fun i σ H' => (∃ x2 x3 x4, σ = [some (.ref p), some (.ref R), x2, x3, x4]) ∧ Pu H' p (n + 1 + 4 * i) ∧ ∃ ps : List Pr, BldP K p H H' R (ps.map prD) ∧ ps.length = i ∧ ∀ q ∈ ps, okPr q) ⟨⟨_, _, _, rfl⟩, hp1, [], b1, rfl, by simp⟩ (fun i σ H' hi e => ?_) (fun σ H' e => ?_)
    · obtain ⟨⟨x2, x3, x4, rfl⟩, hp2, ps, b2, lps, ok2⟩ := e
      refine ⟨_, rfl, p, 9, _, rfl, by decide, by decide, by omega, hp2, fun H3 wy hw hp3 off3 => ?_⟩
      have b3 := b2.draw off3
      refine ⟨(by decide : 4 ≤ sizeLine), fun L nL => ?_⟩
      have neL := hp3.ne nL
      have b4 := b3.same (same_upd (o := .lst (wMk.map V.str)) nL)
      refine ⟨_, rfl, p, 4, _, rfl, by decide, by decide, by omega, hp3.put neL, fun H5 q hq4 hp5 off5 => ?_⟩
      have b5 := b4.draw off5
      obtain ⟨m, mm, hm⟩ := pick_of wMk (r := q) hq4
      have hL : H5 L = some (.lst (wMk.map V.str)) := by rw [off5 L neL]; exact upd_same
      refine ⟨L, _, _, _, rfl, rfl, SqL.of hL, atI_nat hm, ?_⟩
      have mok : m ∈ (["firm", "cut", "bare", "loose"] : List Str) := by
        have : ∀ m ∈ wMk, m ∈ (["firm", "cut", "bare", "loose"] : List Str) := by decide +kernel
        exact this m mm
      have fin : ∀ (H6 : Hp) (T : Addr) (o : Option Nat) (m : Str), H6 T = none → Pu H6 p (n + 1 + 4 * i + 1 + 1 + 1) → BldP K p H H6 R (ps.map prD) → okPr (o, m) → ∃ ys, (L2.upd H6 T (.tup [.str (tx o), .str m])) R = some (.lst ys) ∧ ys.length < sizeLine ∧ ∀ x2 x3 x4, (∃ y2 y3 y4, [some (V.ref p), some (.ref R), x2, x3, x4] = [some (.ref p), some (.ref R), y2, y3, y4]) ∧ Pu (L2.upd (L2.upd H6 T (.tup [.str (tx o), .str m])) R (.lst (ys ++ [.ref T]))) p (n + 1 + 4 * (i + 1)) ∧ ∃ ps : List Pr, BldP K p H (L2.upd (L2.upd H6 T (.tup [.str (tx o), .str m])) R (.lst (ys ++ [.ref T]))) R (ps.map prD) ∧ ps.length = i + 1 ∧ ∀ q ∈ ps, okPr q := by
        intro H6 T o m nT hp6 b6 ok6
        obtain ⟨oo, hoo⟩ := hp6.some
        obtain ⟨ys, hy, ly, put⟩ := (b6.same (same_upd (o := .tup [.str (tx o), .str m]) nT)).put
        refine ⟨ys, hy, by rw [ly, List.length_map, sizeLine_eq]; omega, fun x2 x3 x4 => ⟨⟨_, _, _, rfl⟩, ((hp6.put (hp6.ne nT)).put ne).le (by omega), ps ++ [(o, m)], ?_, by rw [List.length_append, lps]; rfl, fun q mq => ?_⟩⟩
        · rw [List.map_append]
          exact put _ _ (b6.two hoo nT _ _)
        · rcases List.mem_append.mp mq with mq | mq
          · exact ok2 q mq
          · rcases List.mem_singleton.mp mq with rfl
            exact ok6
      have sgn : ∀ c ∈ cs signsS, okPr (some c, m) := fun c hc => ⟨(fun c' e => by obtain rfl := Option.some.inj e; exact hc), mok⟩
      refine ⟨_, rfl, rfl, _, rfl, if_by (fun _ => ?_) (fun _ => ?_)⟩
      · obtain ⟨ys0, hy0, ly0, _⟩ := b5.put
        refine ⟨_, rfl, .inl ⟨rfl, _, SqL.of hy0⟩, (by decide : 2 ≤ sizeLine), fun M nM => ?_⟩
        have neM := hp5.ne nM
        have b6 := b5.same (same_upd (o := .lst (wEm.map V.str)) nM)
        refine ⟨_, rfl, p, 2, _, rfl, by decide, by decide, by omega, hp5.put neM, fun H7 q2 hq2 hp7 off7 => ?_⟩
        have b7 := b6.draw off7
        obtain ⟨m2, mm2, hm2⟩ := pick_of wEm (r := q2) hq2
        have hM : H7 M = some (.lst (wEm.map V.str)) := by rw [off7 M neM]; exact upd_same
        have mok2 : m2 ∈ (["firm", "cut", "bare", "loose"] : List Str) := by
          have : ∀ m ∈ wEm, m ∈ (["firm", "cut", "bare", "loose"] : List Str) := by decide +kernel
          exact this m2 mm2
        refine ⟨M, _, _, _, rfl, rfl, SqL.of hM, atI_nat hm2, (by decide : 2 ≤ sizeLine), fun T nT => ?_⟩
        obtain ⟨ys, hy, hz, fn⟩ := fin H7 T none m2 nT hp7 b7 ⟨(fun c e => by cases e), mok2⟩
        exact ⟨R, ys, _, rfl, rfl, hy, hz, fn _ _ _⟩
      refine ⟨_, rfl, _, _, rfl, rfl, _, rfl, if_by (fun _ => ?_) (fun _ => ?_)⟩
      · obtain ⟨ys0, hy0, ly0, _⟩ := b5.put
        refine ⟨_, rfl, .inl ⟨rfl, _, SqL.of hy0⟩, _, rfl, p, 9, _, rfl, by decide, by decide, by omega, hp5, fun H7 q2 hq2 hp7 off7 => ?_⟩
        have b7 := b5.draw off7
        obtain ⟨c, mc, hc⟩ := pick_cs "[[]]!--*?" (r := q2) (by rw [show ("[[]]!--*?" : Str).length = 9 by decide +kernel]; exact hq2)
        have cS : c ∈ cs signsS := by
          have : ∀ c ∈ cs ("[[]]!--*?" : Str), c ∈ cs signsS := by decide +kernel
          exact this c mc
        refine ⟨_, _, c, rfl, rfl, small_line (by decide +kernel), atI_nat hc, _, rfl, (by decide : 2 ≤ sizeLine), fun T nT => ?_⟩
        obtain ⟨ys, hy, hz, fn⟩ := fin H7 T (some c) m nT hp7 b7 (sgn c cS)
        exact ⟨R, ys, _, rfl, rfl, hy, hz, fn _ _ _⟩
      refine ⟨_, rfl, _, _, rfl, rfl, _, rfl, if_by (fun _ => ?_) (fun _ => ?_)⟩
      · obtain ⟨ys0, hy0, ly0, _⟩ := b5.put
        refine ⟨_, rfl, .inl ⟨rfl, _, SqL.of hy0⟩, _, rfl, p, 4, _, rfl, by decide, by decide, by omega, hp5, fun H7 q2 hq2 hp7 off7 => ?_⟩
        have b7 := b5.draw off7
        obtain ⟨c, mc, hc⟩ := pick_cs "abcd" (r := q2) (by rw [show ("abcd" : Str).length = 4 by decide +kernel]; exact hq2)
        have cS : c ∈ cs signsS := by
          have : ∀ c ∈ cs ("abcd" : Str), c ∈ cs signsS := by decide +kernel
          exact this c mc
        refine ⟨_, _, c, rfl, rfl, small_line (by decide +kernel), atI_nat hc, _, rfl, (by decide : 2 ≤ sizeLine), fun T nT => ?_⟩
        obtain ⟨ys, hy, hz, fn⟩ := fin H7 T (some c) m nT hp7 b7 (sgn c cS)
        exact ⟨R, ys, _, rfl, rfl, hy, hz, fn _ _ _⟩
      · obtain ⟨ys0, hy0, ly0, _⟩ := b5.put
        refine ⟨_, rfl, .inl ⟨rfl, _, SqL.of hy0⟩, rfl, _, rfl, p, 95, _, rfl, by decide, by decide, by omega, hp5, fun H7 q2 hq2 hp7 off7 => ?_⟩
        have b7 := b5.draw off7
        obtain ⟨c, mc, hc⟩ := pick_cs signsS (r := q2) (by rw [show signsS.length = 95 by decide +kernel]; exact hq2)
        refine ⟨_, _, c, rfl, rfl, small_line (by decide +kernel), atI_nat hc, _, rfl, (by decide : 2 ≤ sizeLine), fun T nT => ?_⟩
        obtain ⟨ys, hy, hz, fn⟩ := fin H7 T (some c) m nT hp7 b7 (sgn c mc)
        exact ⟨R, ys, _, rfl, rfl, hy, hz, fn _ _ _⟩
    · obtain ⟨⟨x2, x3, x4, rfl⟩, hp2, ps, b2, lps, ok2⟩ := e
      exact ⟨_, rfl, k H' R ps b2 (by omega) ok2⟩
end
end Qb
end PySem
namespace PySem
namespace Qb
open PySem.W PySem.Calls PyProof.Rows L2
/-! # the law's own reading -/
def shc (r : Rw) : Nat := if r.2 = "firm" then 102 else r.1
def shape (row : List Rw) : Str := ⟨(row.map shc).toArray⟩
theorem cs_shape (row : List Rw) : cs (shape row) = row.map shc := rfl
theorem len_shape (row : List Rw) : (shape row).length = row.length := by
  rw [len_cs, cs_shape, List.length_map]
theorem shc_eq {r : Rw} {ch : Nat} (h : ch ≠ 102) : (shc r == ch) = loose r ch := by
  unfold shc loose
  by_cases c : r.2 = "firm"
  · rw [if_pos c, c]
    rw [beq_eq_false_iff_ne.mpr (Ne.symm h)]
    simp
  · rw [if_neg c]
    have : (r.2 != "firm") = true := by simpa using c
    rw [this, Bool.and_true]
theorem cutS_one (row : List Rw) (i : Nat) : cutS (shape row) (some ((i : Nat) : Int)) (some ((i + 1 : Nat) : Int)) = (match row[i]? with | some r => sg (shc r) | none => "") := by
  refine str_ext ?_
  show ((cs (shape row)).drop (HT.sIx (shape row).length 0 (some ((i : Nat) : Int)))).take (HT.sIx (shape row).length (shape row).length (some ((i + 1 : Nat) : Int)) - HT.sIx (shape row).length 0 (some ((i : Nat) : Int))) = _
  rw [HT.sIx_nat, HT.sIx_nat, cs_shape, len_shape]
  by_cases h : i < row.length
  · rw [List.getElem?_eq_getElem h, Nat.min_eq_left (by omega), Nat.min_eq_left (by omega)]
    rw [List.drop_eq_getElem_cons (by rw [List.length_map]; exact h), show i + 1 - i = 1 by omega, List.take_succ_cons, List.take_zero, List.getElem_map]
  · rw [List.getElem?_eq_none (by omega), List.drop_eq_nil_of_le (by rw [List.length_map]; omega), List.take_nil]
    rfl
theorem cutS_is {row : List Rw} {i ch : Nat} {x : Str} (hx : x = sg ch) (h : ch ≠ 102) : decide (V.str (cutS (shape row) (some ((i : Nat) : Int)) (some ((i + 1 : Nat) : Int))) = V.str x) = looseAt row i ch := by
  rw [cutS_one]
  unfold looseAt
  cases row[i]? with
  | some r =>
    show decide (V.str (sg (shc r)) = V.str x) = loose r ch
    rw [eq_sg hx, shc_eq h]
  | none =>
    show decide (V.str "" = V.str x) = false
    subst hx
    rw [decide_eq_false]
    intro z
    have := congrArg Str.length (V.str.inj z)
    cases this
theorem shape_cut (row : List Rw) {i j : Nat} (h1 : i ≤ j) (h2 : j ≤ row.length) : cutS (shape row) (some ((i : Nat) : Int)) (some ((j : Nat) : Int)) = shape ((row.take j).drop i) := by
  refine str_ext ?_
  show ((cs (shape row)).drop (HT.sIx (shape row).length 0 (some ((i : Nat) : Int)))).take (HT.sIx (shape row).length (shape row).length (some ((j : Nat) : Int)) - HT.sIx (shape row).length 0 (some ((i : Nat) : Int))) = _
  rw [HT.sIx_nat, HT.sIx_nat, cs_shape, len_shape, Nat.min_eq_left h2, Nat.min_eq_left (Nat.le_trans h1 h2), cs_shape, List.map_drop, List.map_take, List.drop_take]
theorem shape_at {row : List Rw} {i : Nat} (h : i < row.length) : atI (cs (shape row)) (i : Nat) = some (shc row[i]) := by
  refine atI_nat ?_
  rw [cs_shape, List.getElem?_map, List.getElem?_eq_getElem h]
  rfl
def spSp (K : Frag) : Sp := fun vs H Q _ => ∃ (v : V) (row : List Rw), vs = [v, .str (shape row)] ∧ Dp K H v (rowD row) ∧ row.length ≤ 300 ∧ ∀ H' R, Bld K H H' R ((rg row).map rgD) → Q (.ref R) H'
def spRd (K : Frag) : Sp := fun vs H Q _ => ∃ (v : V) (ps : List Pr), vs = [v] ∧ Dp K H v (.list (ps.map prD)) ∧ ps.length ≤ 300 ∧ ∀ H' u, Same H H' → Dp K H' u (.list ((patOf ps).map Pt.d)) → Q u H'
section
variable {P : Program} {w : World} {K : Frag} {mg : Str → Option Value} {base : Heap}
abbrev sSp : Stmt := top 29
abbrev nSp : List Str := ["_law_pairs_here", "_law_shape", "_law_spans_here", "_law_at", "_law_far"]
theorem scSp : FnScope nSp ["_law_pairs_here", "_law_shape"] (defScope sSp) := ⟨rfl, rfl, rfl, by decide +kernel, rfl, by decide +kernel, by decide +kernel⟩
theorem has_Sp {f : Addr} {fd : FuncData} (F : Fun K "_law_spans" "_law_spans" sSp f fd) (g : mg "_law_spans" = some (.ref f)) (B : Blt mg)  :
    Has P w K mg base 1 "_law_spans" ["_law_pairs_here", "_law_shape"] (spSp K) := by
  refine has_of F g (F.binds (ps := ["_law_pairs_here", "_law_shape"]) fun _ _ _ _ _ _ us hl => match us, hl with | [_, _], _ => rfl) (F.ok scSp (fun vs H Q E h => ?_) (fun cdv A outer s H vs Q E hr h => ?_))
  · obtain ⟨v, row, rfl, _⟩ := h
    rfl
  · refine ⟨_, (pss_cons (ps_set (i := 2) scSp.nd rfl (.inl rfl) (pe_lst pa_nil))
        (pss_cons (ps_set (i := 3) scSp.nd rfl (.inl rfl) pe_int)
        (pss_cons (ps_while PassesOwn.never (pt_cmpR op_lt (pv 3) (pe_callB call_len_seq (by rfl) B.len PySem.boot_len (pa_cons (pv 0) pa_nil)) (nomark _)) (pss_cons (ps_set (i := 4) scSp.nd rfl (.inl rfl) pe_int)
          (pss_cons (ps_if (PW.pt (pw_and (pt_cmpR op_eq (pe_slice sl_str (pv 1) (po_some (pe_op op_add (pv 3) pe_int)) (po_some (pe_op op_add (pv 3) pe_int))) pe_str (nomark _)) (pw_and (pt_cmpR op_lt (pe_op op_add (pv 3) pe_int) (pe_callB call_len_seq (by rfl) B.len PySem.boot_len (pa_cons (pv 0) pa_nil)) (nomark _)) (pw_and1 (pt_cmpR op_le_str (pe_ix ix_tup (pe_ix ix_list (pv 0) (pv 3) (fun _ _ => rfl)) pe_int (fun _ _ => rfl)) (pe_ix ix_tup (pe_ix ix_list (pv 0) (pe_op op_add (pv 3) pe_int) (fun _ _ => rfl)) pe_int (fun _ _ => rfl)) (nomark _)))))) (pss_one (ps_set (i := 4) scSp.nd rfl (.inl rfl) pe_int)) pss_nil)
          (pss_cons (ps_expr (pe_bm PySem.F.plainAttrs_list PySem.F.slot_list_append PySem.F.type_list_append mt_append (pv 2) (pa_cons (pe_tup (pa_cons (pe_ix ix_tup (pe_ix ix_list (pv 0) (pv 3) (fun _ _ => rfl)) pe_int (fun _ _ => rfl)) (pa_cons (pe_ix ix_tup (pe_ix ix_list (pv 0) (pe_op op_add (pv 3) (pv 4)) (fun _ _ => rfl)) pe_int (fun _ _ => rfl)) pa_nil))) pa_nil)))
          (pss_one (ps_set (i := 3) scSp.nd rfl (.inl rfl) (pe_op op_add (pe_op op_add (pv 3) (pv 4)) pe_int)))))))
        (pss_one (ps_ret (pv 2)))))), ?_⟩
    obtain ⟨v, row, rfl, hd, hl, k⟩ := h
    refine ⟨(by decide : 0 ≤ sizeLine), fun R nR => ?_⟩
    have b0 : Bld K H (L2.upd H R (.lst [])) R [] := Bld.new nR
    refine while_n (fun m σ H' => ∃ (i : Nat) (x4 : Option V) (pre : List (Nat × Nat)), σ = [some v, some (.str (shape row)), some (.ref R), some (.int i), x4] ∧ m = row.length + 3 - i ∧ i ≤ row.length + 2 ∧ pre.length ≤ i ∧ Bld K H H' R (pre.map rgD) ∧ pre ++ rg (row.drop i) = rg row) (row.length + 3) ⟨0, _, [], rfl, rfl, by omega, Nat.zero_le _, b0, rfl⟩ (fun m σ H' e => ?_)
    obtain ⟨i, x4, pre, rfl, rfl, hi2, hp, b, tot⟩ := e
    obtain ⟨a, xs, rfl, hq, lx, all, at_⟩ := row_at (dp_same b.base hd)
    have sl : (shape row).length ≤ sizeLine := small_line (by rw [len_shape]; omega)
    refine ⟨_, rfl, _, rfl, a, xs, rfl, .inl hq, _, _, rfl, rfl, _, rfl, if_by (fun e1 => ?_) (fun e1 => ?_)⟩
    · have hi : i < row.length := by have := of_decide_eq_true e1; omega
      obtain ⟨t, hx, ht⟩ := at_ i row[i] (List.getElem?_eq_getElem hi)
      refine ⟨_, fun σ' H' z => z, ?_⟩
      refine ⟨_, rfl, _, rfl, _, _, rfl, rfl, _, rfl, _, rfl, _, _, rfl, rfl, _, rfl, shape row, rfl, sl, rfl, _, rfl, ?_⟩
      have ce : decide (V.str (cutS (shape row) (some ((i : Nat) + 1)) (some ((i : Nat) + 2))) = V.str "-") = looseAt row (i + 1) 45 := cutS_is (row := row) (i := i + 1) (ch := 45) rfl (by decide)
      rcases of_row hi with e2 | ⟨e2, e3⟩ | ⟨e2, e3, c, hc, e4⟩ | ⟨e2, e3, c, hc, e4⟩
      rotate_left 3
      · obtain ⟨t3, hx3, ht3⟩ := at_ (i + 2) c hc
        refine if_yes (ce.trans e2) ⟨_, rfl, _, _, rfl, rfl, _, rfl, a, xs, rfl, .inl hq, _, _, rfl, rfl, _, rfl, if_yes (decide_eq_true (by omega)) ?_⟩
        refine ⟨_, rfl, _, rfl, a, xs, _, _, rfl, rfl, hq, atI_nat hx, t, _, _, _, rfl, rfl, ht, rfl, _, rfl, _, rfl, _, _, rfl, rfl, a, xs, _, _, rfl, rfl, hq, atI_nat (j := i + 2) hx3, t3, _, _, _, rfl, rfl, ht3, rfl, _, _, rfl, rfl, _, rfl, ?_⟩
        rw [lt_sg, decide_eq_false (by omega)]
        refine if_yes rfl ?_
        obtain ⟨ys, hy, ly, _⟩ := b.put
        refine ⟨_, rfl, .inl ⟨rfl, _, SqL.of hy⟩, _, rfl, _, rfl, a, xs, _, _, rfl, rfl, hq, atI_nat hx, t, _, _, _, rfl, rfl, ht, rfl, _, rfl, _, rfl, _, rfl, _, _, rfl, rfl, a, xs, _, _, rfl, rfl, hq, atI_nat (j := i + 2) hx3, t3, _, _, _, rfl, rfl, ht3, rfl, (by decide : 2 ≤ sizeLine), fun T nT => ?_⟩
        obtain ⟨ys', hy', ly', put⟩ := (b.same (same_upd (o := .tup [.str (sg row[i].1), .str (sg c.1)]) nT)).put
        refine ⟨R, ys', _, rfl, rfl, hy', ?_, _, rfl, _, rfl, _, _, rfl, rfl, _, _, rfl, rfl, _, ?_, i + 3, _, pre ++ [(row[i].1, c.1)], rfl, rfl, by omega, by rw [List.length_append]; show _ + 1 ≤ _; omega, ?_, ?_⟩
        · rw [ly', List.length_map, sizeLine_eq]; omega
        · omega
        · rw [List.map_append]
          exact put _ _ (b.two nT _ _)
        · rw [← tot, rg_far (List.getElem?_eq_getElem hi) hc e2 e4]
          simp
      all_goals
        have nr : looseAt row (i + 1) 45 = true → ∀ c, row[i + 2]? = some c → ¬ row[i].1 ≤ c.1 := by
          first
          | exact fun z => absurd (e2.symm.trans z) Bool.false_ne_true
          | (intro z c hc; exact absurd (List.getElem?_eq_some_iff.mp hc).1 e3)
          | (intro z c' hc'; rw [hc] at hc'; obtain rfl := Option.some.inj hc'; exact e4)
        first
        | refine if_no (ce.trans e2) (if_no rfl ?_)
        | refine if_yes (ce.trans e2) ⟨_, rfl, _, _, rfl, rfl, _, rfl, a, xs, rfl, .inl hq, _, _, rfl, rfl, _, rfl, if_no (decide_eq_false (by omega)) (if_no rfl ?_)⟩
        | (obtain ⟨t3, hx3, ht3⟩ := at_ (i + 2) c hc
           refine if_yes (ce.trans e2) ⟨_, rfl, _, _, rfl, rfl, _, rfl, a, xs, rfl, .inl hq, _, _, rfl, rfl, _, rfl, if_yes (decide_eq_true (by omega)) ?_⟩
           refine ⟨_, rfl, _, rfl, a, xs, _, _, rfl, rfl, hq, atI_nat hx, t, _, _, _, rfl, rfl, ht, rfl, _, rfl, _, rfl, _, _, rfl, rfl, a, xs, _, _, rfl, rfl, hq, atI_nat (j := i + 2) hx3, t3, _, _, _, rfl, rfl, ht3, rfl, _, _, rfl, rfl, _, rfl, ?_⟩
           rw [lt_sg, decide_eq_true (by omega)]
           refine if_no rfl ?_)
        obtain ⟨ys, hy, ly, _⟩ := b.put
        refine ⟨_, rfl, .inl ⟨rfl, _, SqL.of hy⟩, _, rfl, _, rfl, a, xs, _, _, rfl, rfl, hq, atI_nat hx, t, _, _, _, rfl, rfl, ht, rfl, _, rfl, _, rfl, _, rfl, _, _, rfl, rfl, a, xs, _, _, rfl, rfl, hq, (by show atI xs (((i : Nat) : Int) + 0) = _; rw [Int.add_zero]; exact atI_nat hx), t, _, _, _, rfl, rfl, ht, rfl, (by decide : 2 ≤ sizeLine), fun T nT => ?_⟩
        obtain ⟨ys', hy', ly', put⟩ := (b.same (same_upd (o := .tup [.str (sg row[i].1), .str (sg row[i].1)]) nT)).put
        refine ⟨R, ys', _, rfl, rfl, hy', ?_, _, rfl, _, rfl, _, _, rfl, rfl, _, _, rfl, rfl, _, ?_, i + 1, _, pre ++ [(row[i].1, row[i].1)], rfl, rfl, by omega, by rw [List.length_append]; show _ + 1 ≤ _; omega, ?_, ?_⟩
        · rw [ly', List.length_map, sizeLine_eq]; omega
        · omega
        · rw [List.map_append]
          exact put _ _ (b.two nT _ _)
        · rw [← tot, rg_near (List.getElem?_eq_getElem hi) nr]
          simp
    · have hi : row.length ≤ i := by have := of_decide_eq_false e1; omega
      rw [rg_end hi, List.append_nil] at tot
      refine ⟨_, rfl, k H' R ?_⟩
      rw [← tot]
      exact b
end
end Qb
end PySem
namespace PySem
namespace Qb
open PySem.W PySem.Calls PyProof.Rows L2
theorem getD_shape (row : List Rw) (v : Nat) (h : v < row.length) : ((shape row).cps.getD v 0 = 93) ↔ looseAt row v 93 = true := by
  have e : (shape row).cps.getD v 0 = shc row[v] := by
    unfold shape
    simp [h]
  rw [e]
  unfold looseAt
  rw [List.getElem?_eq_getElem h]
  show _ ↔ loose row[v] 93 = true
  rw [← shc_eq (by decide)]
  simp
theorem fromI (n b : Nat) : fromIndex n (((b : Nat) : Int) + 1) = b + 1 := by
  unfold fromIndex
  rw [if_neg (by omega), Int.max_eq_right (by omega)]
  omega
theorem find_end (row : List Rw) (b : Nat) : (∃ j, Txt.find3 (shape row) "]" (((b : Nat) : Int) + 1) = (j : Nat) ∧ scan (fun k => looseAt row k 93) (b + 1) (row.length - (b + 1)) = some j) ∨ (Txt.find3 (shape row) "]" (((b : Nat) : Int) + 1) = -1 ∧ scan (fun k => looseAt row k 93) (b + 1) (row.length - (b + 1)) = none) := by
  have e0 : ("]" : Str) = ⟨#[93]⟩ := by decide +kernel
  rw [e0]
  rcases StrLaws.find3_spec (shape row) 93 (((b : Nat) : Int) + 1) with ⟨h, n⟩ | ⟨k, h, h1, h2, h3, h4⟩
  · refine .inr ⟨h, scan_eq_none fun j a c => ?_⟩
    rw [fromI, len_shape] at n
    cases z : looseAt row j 93 with
    | false => rfl
    | true => exact absurd ((getD_shape row j (by omega)).mpr z) (n j a (by omega))
  · rw [fromI] at h1 h4
    rw [len_shape] at h2
    refine .inl ⟨k, h, scan_eq h1 (by omega) ((getD_shape row k h2).mp h3) fun i a c => ?_⟩
    cases z : looseAt row i 93 with
    | false => rfl
    | true => exact absurd ((getD_shape row i (by omega)).mpr z) (h4 i a c)
theorem sg_is {r : Rw} {ch : Nat} {x : Str} (hx : x = sg ch) (h : ch ≠ 102) : decide (V.str (sg (shc r)) = V.str x) = loose r ch := by
  rw [eq_sg hx, shc_eq h]
theorem tups_hide {H : Hp} {R : Addr} {ys : List V} (h : H R = some (.lst ys)) : Tups H (hide H R) := fun b o hb n => hide_ne hb (fun e => by rw [e, h] at hb; exact n ys (Option.some.inj hb).symm)
section
variable {P : Program} {w : World} {K : Frag} {mg : Str → Option Value} {base : Heap}
abbrev sRd : Stmt := top 30
abbrev nRd : List Str := ["_law_all_pairs", "_law_pairs_here", "_law_pair", "_law_shape", "_law_sign", "_law_mark", "_law_row", "_law_at", "_law_begin", "_law_end"]
theorem scRd : FnScope nRd ["_law_all_pairs"] (defScope sRd) := ⟨rfl, rfl, rfl, by decide +kernel, rfl, by decide +kernel, by decide +kernel⟩
theorem has_Rd {f : Addr} {fd : FuncData} (F : Fun K "_law_read" "_law_read" sRd f fd) (g : mg "_law_read" = some (.ref f)) (B : Blt mg) (hSp : Has P w K mg base 1 "_law_spans" ["_law_pairs_here", "_law_shape"] (spSp K)) :
    Has P w K mg base 2 "_law_read" ["_law_all_pairs"] (spRd K) := by
  obtain ⟨fSp, dSp, gSp, kSp, bSp, GSp⟩ := hSp
  refine has_of F g (F.binds (ps := ["_law_all_pairs"]) fun _ _ _ _ _ _ us hl => match us, hl with | [_], _ => rfl) (F.ok scRd (fun vs H Q E h => ?_) (fun cdv A outer s H vs Q E hr h => ?_))
  · obtain ⟨v, ps, rfl, _⟩ := h
    rfl
  · refine ⟨_, (pss_cons (ps_setLc (tt := tTest (tOp rNe (tOp (rIxT K) (tVar 2) (tC (.int 0))) (tC (.str "")))) (i := 1) (own := [("_law_pair", 2)]) (g := gName 2) rfl scRd.nd rfl rfl (sw_true rfl rfl rfl (by decide +kernel)) (pi_list (pv 0)) (blkOk_by (N := nRd) (sc := defScope sRd) (by decide +kernel)) (fun _ _ _ _ _ => pg_name (i := 2) scRd.nd rfl (.inl rfl)) (fun _ _ _ _ _ => pts_one (pt_cmpR op_ne (pe_ix ix_tup (pv 2) pe_int (fun _ _ => rfl)) pe_str (nomark _))) (fun _ _ _ _ _ => (pv 2)))
        (pss_cons (ps_set (i := 3) scRd.nd rfl (.inl rfl) (pe_join pe_str (pe_lc (own := [("_law_sign", 4), ("_law_mark", 5)]) (g := gTup K 2 (gCons (gName 4) (gCons (gName 5) gNil))) (tt := tYes) rfl scRd.nd (pi_list (pv 1)) (blkOk_by (N := nRd) (sc := defScope sRd) (by decide +kernel)) (fun _ _ _ _ _ => pg_tup rfl (pgs_cons (pg_name (i := 4) scRd.nd rfl (.inl rfl)) (pgs_cons (pg_name (i := 5) scRd.nd rfl (.inl rfl)) pgs_nil))) (fun _ _ _ _ _ => pts_nil) (fun _ _ _ _ _ => (pe_ifExp (pt_cmpR op_eq (pv 5) pe_str (nomark _)) pe_str (pv 4))))))
        (pss_cons (ps_set (i := 6) scRd.nd rfl (.inl rfl) (pe_lst pa_nil))
        (pss_cons (ps_set (i := 7) scRd.nd rfl (.inl rfl) pe_int)
        (pss_cons (ps_while PassesOwn.never (pt_cmpR op_lt (pv 7) (pe_callB call_len_seq (by rfl) B.len PySem.boot_len (pa_cons (pv 1) pa_nil)) (nomark _)) (pss_cons (ps_set (i := 8) scRd.nd rfl (.inl rfl) (pe_op op_add (pe_op op_add (pv 7) pe_int) (pe_callTy call_int1 (by rfl) B.int (by decide +kernel) (pa_cons (pe_cmpR op_eq (pe_slice sl_str (pv 3) (po_some (pe_op op_add (pv 7) pe_int)) (po_some (pe_op op_add (pv 7) pe_int))) pe_str (nomark _)) pa_nil))))
          (pss_cons (ps_set (i := 9) scRd.nd rfl (.inl rfl) (pe_bm PySem.F.plainAttrs_str PySem.F.slot_str_find PySem.F.type_str_find mt_find3 (pv 3) (pa_cons pe_str (pa_cons (pe_op op_add (pv 8) pe_int) pa_nil))))
          (pss_cons (ps_if (PW.pt (pw_and (pt_cmpR op_eq (pe_ix ix_str (pv 3) (pv 7) (fun _ _ => rfl)) pe_str (nomark _)) (pw_and1 (pt_cmpR op_gt (pv 9) pe_int (nomark _))))) (pss_cons (ps_expr (pe_bm PySem.F.plainAttrs_list PySem.F.slot_list_append PySem.F.type_list_append mt_append (pv 6) (pa_cons (pe_tup (pa_cons pe_str (pa_cons (pe_cmpR op_eq (pv 8) (pe_op op_add (pv 7) pe_int) (nomark _)) (pa_cons (pe_call GSp hr rfl gSp kSp bSp .nil pass0 (pa_cons (pe_slice sl_list (pv 1) (po_some (pv 8)) (po_some (pv 9))) (pa_cons (pe_slice sl_str (pv 3) (po_some (pv 8)) (po_some (pv 9))) pa_nil))) pa_nil)))) pa_nil)))
            (pss_one (ps_set (i := 7) scRd.nd rfl (.inl rfl) (pv 9)))) (pss_one (ps_if (pt_cmpR op_eq (pe_ix ix_str (pv 3) (pv 7) (fun _ _ => rfl)) pe_str (nomark _)) (pss_one (ps_expr (pe_bm PySem.F.plainAttrs_list PySem.F.slot_list_append PySem.F.type_list_append mt_append (pv 6) (pa_cons (pe_tup (pa_cons pe_str pa_nil)) pa_nil)))) (pss_one (ps_if (pt_cmpR op_eq (pe_ix ix_str (pv 3) (pv 7) (fun _ _ => rfl)) pe_str (nomark _)) (pss_one (ps_expr (pe_bm PySem.F.plainAttrs_list PySem.F.slot_list_append PySem.F.type_list_append mt_append (pv 6) (pa_cons (pe_tup (pa_cons pe_str pa_nil)) pa_nil)))) (pss_one (ps_expr (pe_bm PySem.F.plainAttrs_list PySem.F.slot_list_append PySem.F.type_list_append mt_append (pv 6) (pa_cons (pe_tup (pa_cons pe_str (pa_cons (pe_ix ix_tup (pe_ix ix_list (pv 1) (pv 7) (fun _ _ => rfl)) pe_int (fun _ _ => rfl)) pa_nil))) pa_nil)))))))))
          (pss_one (ps_set (i := 7) scRd.nd rfl (.inl rfl) (pe_op op_add (pv 7) pe_int)))))))
        (pss_one (ps_ret (pv 6)))))))), ?_⟩
    obtain ⟨v, ps, rfl, hd, hl, k⟩ := h
    obtain ⟨a, xs, rfl, hq, all⟩ := dp_lst hd
    have lx := dpLen all
    rw [List.length_map] at lx
    refine ⟨_, rfl, a, rfl, ⟨_, hq⟩, fun D hD => lc_it (walk_list (xs := xs)) (fun i H' => Bld K H H' D ((rowOf (ps.take i)).map rwD)) (Bld.new hD) (fun i H' _ e => e.base.seq hq) (fun i x H' H2 hi e y => ?_) (fun H' e => ?_)⟩
    · obtain ⟨rfl, hx⟩ := y
      obtain ⟨d, hdi, dp⟩ := dpAt' all hx
      rw [List.getElem?_map] at hdi
      obtain ⟨p, hp, rfl⟩ : ∃ p, ps[i]? = some p ∧ prD p = d := by
        cases z : ps[i]? with
        | none => rw [z] at hdi; cases hdi
        | some p => rw [z] at hdi; exact ⟨p, rfl, Option.some.inj hdi⟩
      have dpH := dp_same e.2.1 dp
      obtain ⟨t, rfl, ht⟩ := pr_two (dp_same e.base dp)
      have er := row_take hp
      refine ⟨rfl, _, rfl, t, _, _, _, rfl, rfl, ht, rfl, rfl, _, rfl, ?_⟩
      rw [tx_ne]
      obtain ⟨o, m⟩ := p
      cases o with
      | none =>
        refine if_no rfl ?_
        rw [er]
        simpa using e
      | some c =>
        obtain ⟨ys, hy, ly, put⟩ := e.put
        refine if_yes rfl ⟨_, rfl, ys, hy, ?_, ?_⟩
        · rw [ly, List.length_map, sizeLine_eq]
          have h1 := row_len (ps.take i)
          rw [List.length_take] at h1
          omega
        · rw [er, List.map_append]
          exact put _ (rwD (c, m)) dpH
    · rw [lx, List.take_length] at e
      obtain ⟨row, hrow⟩ : ∃ row, row = rowOf ps := ⟨_, rfl⟩
      rw [← hrow] at e
      have lr : row.length ≤ 300 := by rw [hrow]; exact Nat.le_trans (row_len ps) hl
      have dr : Dp K H' (.ref D) (rowD row) := e.dp
      have sB := e.base
      obtain ⟨D', ys, eD, hqD, lD, allD, at_⟩ := row_at dr
      obtain rfl : D = D' := by injection eD
      refine ⟨⟨_, rfl⟩, _, rfl, D, rfl, ⟨_, hqD⟩, fun D2 hD2 => lc_it (walk_list (xs := ys)) (fun i H2 => Same H' H2 ∧ H2 D2 = some (.lst (((((row.take i).map shc)).map sg).map V.str))) ⟨same_upd hD2, upd_same⟩ (fun i H2 _ e => e.1.seq hqD) (fun i x H2 H3 hi e2 y => ?_) (fun H2 e2 => ?_)⟩
      · obtain ⟨rfl, hx⟩ := y
        obtain ⟨s2, h2⟩ := e2
        have hi' : i < row.length := by omega
        obtain ⟨t, hx', ht⟩ := at_ i row[i] (List.getElem?_eq_getElem hi')
        rw [hx'] at hx
        obtain rfl := Option.some.inj hx
        refine ⟨t, _, rfl, sqT_same s2 ht, rfl, _, _, rfl, _, _, rfl, rfl, rfl, ?_⟩
        refine ⟨_, rfl, rfl, _, rfl, ?_⟩
        have size : ((((row.take i).map shc).map sg).map V.str).length < sizeLine := by
          rw [List.length_map, List.length_map, List.length_map, List.length_take, sizeLine_eq]
          omega
        have ext : ∀ z : Nat, z = shc row[i] → Same H' (L2.upd H3 D2 (.lst ((((row.take i).map shc).map sg).map V.str ++ [.str (sg z)]))) ∧ (L2.upd H3 D2 (.lst ((((row.take i).map shc).map sg).map V.str ++ [.str (sg z)]))) D2 = some (.lst ((((row.take (i + 1)).map shc).map sg).map V.str)) := fun z hz => by
          refine ⟨same_upd2 s2 hD2, ?_⟩
          rw [upd_same, take_snoc (List.getElem?_eq_getElem hi'), List.map_append, List.map_append, List.map_append, hz]
          rfl
        by_cases hm : row[i].2 = "firm"
        · refine if_yes (by rw [hm]; simp) ⟨_, h2, size, ?_⟩
          exact ext 102 (by unfold shc; rw [if_pos hm])
        · refine if_no (decide_eq_false (fun z => hm (V.str.inj z))) ⟨_, rfl, _, h2, size, ?_⟩
          exact ext row[i].1 (by unfold shc; rw [if_neg hm])
      · obtain ⟨s2, h2⟩ := e2
        rw [lD, List.take_length] at h2
        refine ⟨"", D2, (row.map shc).map sg, rfl, rfl, .inl (SqL.of h2), ?_, ?_⟩
        · rw [sum_sg, List.length_map, List.length_map]
          show _ + _ * 0 ≤ _
          omega
        rw [join_sg]
        have sD := sB.trans s2
        have slen : (shape row).length ≤ sizeLine := small_line (by rw [len_shape]; omega)
        refine ⟨(by decide : 0 ≤ sizeLine), fun R nR => ?_⟩
        have dr2 : Dp K H2 (.ref D) (rowD row) := dp_same s2 dr
        have b0 : Bld K H2 (L2.upd H2 R (.lst [])) R [] := Bld.new nR
        refine while_n (fun m σ H3 => ∃ (i n : Nat) (x2 x4 x5 x8 x9 : Option V) (pre : List Pt), σ = [some (.ref a), some (.ref D), x2, some (.str (shape row)), x4, x5, some (.ref R), some (.int i), x8, x9] ∧ m = row.length + 1 - i ∧ i ≤ row.length + 1 ∧ pre.length ≤ i ∧ row.length - i ≤ n ∧ Bld K H2 H3 R (pre.map Pt.d) ∧ pre ++ ptFrom row n i = patOf ps) (row.length + 1) ⟨0, row.length, _, _, _, _, _, [], rfl, rfl, by omega, Nat.zero_le _, by omega, b0, by rw [hrow]; rfl⟩ (fun m σ H3 e => ?_)
        obtain ⟨i, n, x2, x4, x5, x8, x9, pre, rfl, rfl, hi1, hp, hn, b, tot⟩ := e
        obtain ⟨D', zs, eD, hqD, lD, allD, at_⟩ := row_at (dp_same b.base dr2)
        obtain rfl : D = D' := by injection eD
        refine ⟨_, rfl, _, rfl, D, zs, rfl, .inl hqD, _, _, rfl, rfl, _, rfl, if_by (fun e1 => ?_) (fun e1 => ?_)⟩
        · have hi : i < row.length := by have := of_decide_eq_true e1; omega
          obtain ⟨n, rfl⟩ : ∃ n', n = n' + 1 := ⟨n - 1, by omega⟩
          obtain ⟨t, hx, ht⟩ := at_ i row[i] (List.getElem?_eq_getElem hi)
          refine ⟨_, fun σ' H' z => z, ?_⟩
          refine ⟨_, rfl, _, _, rfl, rfl, _, rfl, _, rfl, _, _, rfl, rfl, _, rfl, _, rfl, _, _, rfl, rfl, _, rfl, shape row, rfl, slen, rfl, .inr ⟨_, rfl, _, _, rfl, rfl, ?_⟩⟩
          have ce : decide (V.str (cutS (shape row) (some ((i : Nat) + 1)) (some ((i : Nat) + 2))) = V.str "!") = looseAt row (i + 1) 33 := cutS_is (row := row) (i := i + 1) (ch := 33) rfl (by decide)
          dsimp only
          have eb : ((i : Nat) : Int) + 1 + (if decide (V.str (cutS (shape row) (some ((i : Nat) + 1)) (some ((i : Nat) + 2))) = V.str "!") = true then 1 else 0) = ((bg row i : Nat) : Int) := by
            rw [ce]
            unfold bg
            cases looseAt row (i + 1) 33 <;> simp <;> omega
          rw [eb]
          have hb := bg_ge row i
          have la : looseAt row i 91 = loose row[i] 91 := by
            unfold looseAt
            rw [List.getElem?_eq_getElem hi]
          obtain ⟨ys, hy, ly, put0⟩ := b.put
          refine ⟨_, rfl, rfl, _, rfl, _, _, rfl, rfl, shape row, "]", _, rfl, rfl, ?_⟩
          dsimp only
          rcases (show (∃ j, Txt.find3 (shape row) "]" (((bg row i : Nat) : Int) + 1) = (j : Nat) ∧ endAt row i = some j ∧ loose row[i] 91 = true) ∨ (loose row[i] 91 = true ∧ Txt.find3 (shape row) "]" (((bg row i : Nat) : Int) + 1) = -1 ∧ endAt row i = none) ∨ (loose row[i] 91 = false ∧ endAt row i = none) from by
            unfold endAt nd
            rw [la]
            cases z : loose row[i] 91 with
            | false => exact .inr (.inr ⟨rfl, rfl⟩)
            | true =>
              rcases find_end row (bg row i) with ⟨j, e1, e2⟩ | ⟨e1, e2⟩
              · exact .inl ⟨j, e1, e2, rfl⟩
              · exact .inr (.inl ⟨rfl, e1, e2⟩)) with ⟨j, ef, ee, e91⟩ | ⟨e91, ef, ee⟩ | ⟨e91, ee⟩
          · rw [ef]
            have hj := endAt_ge ee
            have es2 : cutS (shape row) (some ((bg row i : Nat) : Int)) (some ((j : Nat) : Int)) = shape ((row.take j).drop (bg row i)) := shape_cut row (by omega) (by omega)
            have ec : cutV zs (some ((bg row i : Nat) : Int)) (some ((j : Nat) : Int)) = (zs.take j).drop (bg row i) := cut_mid zs (by omega) (by omega)
            have eno : decide (V.int ((bg row i : Nat) : Int) = V.int (((i : Nat) : Int) + 2)) = looseAt row (i + 1) 33 := by
              unfold bg
              cases z : looseAt row (i + 1) 33 with
              | true => rw [if_pos rfl]; exact decide_eq_true rfl
              | false =>
                rw [if_neg (by decide)]
                refine decide_eq_false fun q => ?_
                have := V.int.inj q
                omega
            refine ⟨_, rfl, _, rfl, shape row, _, shc row[i], rfl, rfl, slen, shape_at hi, rfl, _, rfl, if_yes ((sg_is rfl (by decide)).trans e91) ⟨_, rfl, _, _, rfl, rfl, _, rfl, if_yes (decide_eq_true (by omega)) ?_⟩⟩
            refine ⟨_, rfl, .inl ⟨rfl, _, SqL.of hy⟩, _, rfl, _, rfl, _, _, rfl, rfl, rfl, _, rfl, _, rfl, _, rfl, _, rfl, _, rfl, D, zs, rfl, hqD, fun p np => ?_⟩
            have s4 := same_upd (o := .lst (cutV zs (some ((bg row i : Nat) : Int)) (some ((j : Nat) : Int)))) np
            have dsub : Dp K (L2.upd H3 p (.lst (cutV zs (some ((bg row i : Nat) : Int)) (some ((j : Nat) : Int))))) (.ref p) (rowD ((row.take j).drop (bg row i))) := by
              have z := dpAll_same s4 (dpDrop (bg row i) (dpTake j allD))
              rw [← ec, ← List.map_take, ← List.map_drop] at z
              exact .lst (SqL.of upd_same) z
            refine ⟨_, rfl, _, rfl, _, rfl, _, rfl, _, rfl, shape row, rfl, slen, .ref p, (row.take j).drop (bg row i), by rw [← es2]; rfl, dsub, by rw [List.length_drop, List.length_take]; omega, fun H5 R2 b5 => ⟨(by decide : 3 ≤ sizeLine), fun T nT => ?_⟩⟩
            rw [eno]
            have b6 := b.same (s4.trans b5.base)
            have sT := same_upd (o := .tup [.str "of", .bl (looseAt row (i + 1) 33), .ref R2]) nT
            obtain ⟨ys', hy', ly', put⟩ := (b6.same sT).put
            obtain ⟨n2, _, ws, hw, aw⟩ := b5
            have ne2 : R2 ≠ R := fun e => by
              rw [e] at n2
              have z := (s4 _ _ hy).symm.trans n2
              cases z
            have dR2 : Dp K (hide (L2.upd H5 T (.tup [.str "of", .bl (looseAt row (i + 1) 33), .ref R2])) R) (.ref R2) (.list ((rg ((row.take j).drop (bg row i))).map rgD)) :=
              .lst (SqL.of (hide_ne (sT _ _ hw) ne2)) (rgs_tups ((Tups.of (hide_same.trans sT)).trans (tups_hide hy')) aw)
            refine ⟨R, ys', _, rfl, rfl, hy', ?_, _, rfl, _, rfl, _, _, rfl, rfl, _, ?_, j + 1, n, _, _, _, _, _, pre ++ [ofAt row i j], rfl, rfl, by omega, by rw [List.length_append]; show _ + 1 ≤ _; omega, by omega, ?_, ?_⟩
            · rw [ly', List.length_map, sizeLine_eq]; omega
            · omega
            · rw [List.map_append]
              exact put _ _ (.tup (SqT.of (hide_ne upd_same (b6.ne nT))) (.cons (.str _) (.cons (.bl _) (.cons dR2 .nil))))
            · rw [← tot, pt_of (List.getElem?_eq_getElem hi) ee]
              simp
          all_goals
            first
            | (rw [ef]
               refine ⟨_, rfl, _, rfl, shape row, _, shc row[i], rfl, rfl, slen, shape_at hi, rfl, _, rfl, if_yes ((sg_is rfl (by decide)).trans e91) ⟨_, rfl, _, _, rfl, rfl, _, rfl, if_no (by decide) ?_⟩⟩)
            | refine ⟨_, rfl, _, rfl, shape row, _, shc row[i], rfl, rfl, slen, shape_at hi, rfl, _, rfl, if_no ((sg_is rfl (by decide)).trans e91) (if_no rfl ?_)⟩
            have fin : ∀ (T : Addr) (o : HO), H3 T = none → Dp K (hide (L2.upd H3 T o) R) (.ref T) (single row[i]).d → ∃ ys, (L2.upd H3 T o) R = some (.lst ys) ∧ ys.length < sizeLine ∧ Bld K H2 (L2.upd (L2.upd H3 T o) R (.lst (ys ++ [.ref T]))) R ((pre ++ [single row[i]]).map Pt.d) := by
              intro T o nT dT
              obtain ⟨ys', hy', ly', put⟩ := (b.same (same_upd (o := o) nT)).put
              refine ⟨ys', hy', by rw [ly', List.length_map, sizeLine_eq]; omega, ?_⟩
              rw [List.map_append]
              exact put _ _ dT
            have tot2 : (pre ++ [single row[i]]) ++ ptFrom row n (i + 1) = patOf ps := by
              rw [← tot, pt_one (List.getElem?_eq_getElem hi) ee]
              simp
            have hp2 : (pre ++ [single row[i]]).length ≤ i + 1 := by rw [List.length_append]; show _ + 1 ≤ _; omega
            refine ⟨_, rfl, _, rfl, shape row, _, shc row[i], rfl, rfl, slen, shape_at hi, rfl, _, rfl, ?_⟩
            rw [show decide (V.str (sg (shc row[i])) = V.str "*") = loose row[i] 42 from sg_is rfl (by decide)]
            refine if_by (fun e42 => ?_) (fun e42 => ?_)
            · have e : single row[i] = .lot := by unfold single; rw [if_pos e42]
              refine ⟨_, rfl, .inl ⟨rfl, _, SqL.of hy⟩, (by decide : 1 ≤ sizeLine), fun T nT => ?_⟩
              obtain ⟨ys', hy', hz, bb⟩ := fin T (.tup [.str "lot"]) nT (by rw [e]; exact .tup (SqT.of (hide_ne upd_same (b.ne nT))) (.cons (.str _) .nil))
              exact ⟨R, ys', _, rfl, rfl, hy', hz, _, rfl, _, _, rfl, rfl, _, by omega, i + 1, n, _, _, _, _, _, pre ++ [single row[i]], rfl, rfl, by omega, hp2, by omega, bb, tot2⟩
            refine ⟨_, rfl, _, rfl, shape row, _, shc row[i], rfl, rfl, slen, shape_at hi, rfl, _, rfl, ?_⟩
            rw [show decide (V.str (sg (shc row[i])) = V.str "?") = loose row[i] 63 from sg_is rfl (by decide)]
            refine if_by (fun e63 => ?_) (fun e63 => ?_)
            · have e : single row[i] = .any := by unfold single; rw [e42, if_neg (by decide), if_pos e63]
              refine ⟨_, rfl, .inl ⟨rfl, _, SqL.of hy⟩, (by decide : 1 ≤ sizeLine), fun T nT => ?_⟩
              obtain ⟨ys', hy', hz, bb⟩ := fin T (.tup [.str "any"]) nT (by rw [e]; exact .tup (SqT.of (hide_ne upd_same (b.ne nT))) (.cons (.str _) .nil))
              exact ⟨R, ys', _, rfl, rfl, hy', hz, _, rfl, _, _, rfl, rfl, _, by omega, i + 1, n, _, _, _, _, _, pre ++ [single row[i]], rfl, rfl, by omega, hp2, by omega, bb, tot2⟩
            · have e : single row[i] = .one row[i].1 := by unfold single; rw [e42, if_neg (by decide), e63, if_neg (by decide)]
              refine ⟨_, rfl, .inl ⟨rfl, _, SqL.of hy⟩, _, rfl, _, rfl, D, zs, _, _, rfl, rfl, hqD, atI_nat hx, t, _, _, _, rfl, rfl, ht, rfl, (by decide : 2 ≤ sizeLine), fun T nT => ?_⟩
              obtain ⟨ys', hy', hz, bb⟩ := fin T (.tup [.str "one", .str (sg row[i].1)]) nT (by rw [e]; exact b.two nT _ _)
              exact ⟨R, ys', _, rfl, rfl, hy', hz, _, rfl, _, _, rfl, rfl, _, by omega, i + 1, n, _, _, _, _, _, pre ++ [single row[i]], rfl, rfl, by omega, hp2, by omega, bb, tot2⟩
        · have hi : row.length ≤ i := by have := of_decide_eq_false e1; omega
          rw [pt_end hi, List.append_nil] at tot
          refine ⟨_, rfl, k H3 _ (sD.trans b.base) ?_⟩
          rw [← tot]
          exact b.dp
end
end Qb
end PySem
namespace PySem
namespace Qb
open PySem.W PySem.Calls PyProof.Rows L2
/-! # one list of pairs -/
theorem mark_ok : ∀ m ∈ (["firm", "cut", "bare", "loose"] : List Str), PyData.strOk m = true := by decide +kernel
theorem sh_pr {p : Pr} (h : okPr p) : Sh 1 (prD p) := sh_tup fun d m => by
  rcases List.mem_cons.mp m with rfl | m
  · obtain ⟨o, k⟩ := p
    cases o with
    | none => exact sh_str (show PyData.strOk ("" : Str) = true by decide +kernel)
    | some c => exact sh_str (str_ok_sg (h.1 c rfl))
  · rcases List.mem_singleton.mp m with rfl
    exact sh_str (mark_ok _ h.2)
theorem sh_prs {ps : List Pr} (h : ∀ p ∈ ps, okPr p) : Sh 2 (.list (ps.map prD)) := sh_lst fun d m => by
  obtain ⟨p, mp, rfl⟩ := List.mem_map.mp m
  exact sh_pr (h p mp)
theorem pl_pt {p : Pt} (h : p.few) : Pl 3 p.d := by
  have s : ∀ n x, Pl n (.str x) := fun n x => by cases n <;> exact (by first | exact .inl ⟨x, rfl⟩ | exact .inl (.inl ⟨x, rfl⟩))
  cases p with
  | one c => exact .inr ⟨_, .inr rfl, by show 2 ≤ 1000; decide, fun e m => by
      rcases List.mem_cons.mp m with rfl | m
      · exact s 2 _
      · rcases List.mem_singleton.mp m with rfl
        exact s 2 _⟩
  | any => exact .inr ⟨_, .inr rfl, by show 1 ≤ 1000; decide, fun e m => by
      rcases List.mem_singleton.mp m with rfl
      exact s 2 _⟩
  | lot => exact .inr ⟨_, .inr rfl, by show 1 ≤ 1000; decide, fun e m => by
      rcases List.mem_singleton.mp m with rfl
      exact s 2 _⟩
  | of no rs => exact .inr ⟨_, .inr rfl, by show 3 ≤ 1000; decide, fun e m => by
      rcases List.mem_cons.mp m with rfl | m
      · exact s 2 _
      rcases List.mem_cons.mp m with rfl | m
      · exact .inl (.inr (.inl ⟨no, rfl⟩))
      · rcases List.mem_singleton.mp m with rfl
        have hf : rs.length ≤ 300 := h
        refine .inr ⟨_, .inl rfl, by rw [List.length_map]; omega, fun e m => ?_⟩
        obtain ⟨r, mr, rfl⟩ := List.mem_map.mp m
        exact .inr ⟨_, .inr rfl, by show 2 ≤ 1000; decide, fun e m => by
          rcases List.mem_cons.mp m with rfl | m
          · exact s 0 _
          · rcases List.mem_singleton.mp m with rfl
            exact s 0 _⟩⟩
theorem pl_pts {ps : List Pt} (h : ∀ p ∈ ps, p.few) (hl : ps.length ≤ 1000) : Pl 4 (.list (ps.map Pt.d)) :=
  .inr ⟨_, .inl rfl, by rw [List.length_map]; exact hl, fun e m => by
    obtain ⟨p, mp, rfl⟩ := List.mem_map.mp m
    exact pl_pt (h p mp)⟩
def isOf : Pt → Bool
  | .of _ _ => true
  | _ => false
def knd : Pt → Str
  | .one _ => "one"
  | .any => "any"
  | .lot => "lot"
  | .of _ _ => "of"
theorem knd_of (p : Pt) : decide (V.str (knd p) = V.str "of") = isOf p := by
  cases p <;> rfl
def setsOf (ps : List Pt) (n : Nat) : List Nat := (List.range n).filter fun k => (ps[k]?.map isOf).getD false
theorem PtsAt.kind {K : Frag} {H : Hp} : ∀ {xs : List V} {ps : List Pt} {rs : List Addr} {i : Nat} {p : Pt}, PtsAt K H xs ps rs → ps[i]? = some p → ∃ t ys, xs[i]? = some (.ref t) ∧ SqT K H t (.str (knd p) :: ys)
  | _, _, _, _, _, .nil, e => by cases e
  | _, _, _, 0, _, .flat (p := q) a b t, e => by
    obtain rfl := Option.some.inj e
    cases q with
    | one c => obtain ⟨t, rfl, q⟩ := dp_two b; exact ⟨t, _, rfl, q⟩
    | any =>
      obtain ⟨t, ys, rfl, q, al⟩ := dp_tup b
      cases al with
      | cons h1 h2 => obtain rfl := dp_str h1; exact ⟨t, _, rfl, q⟩
    | lot =>
      obtain ⟨t, ys, rfl, q, al⟩ := dp_tup b
      cases al with
      | cons h1 h2 => obtain rfl := dp_str h1; exact ⟨t, _, rfl, q⟩
    | of _ _ => cases a
  | _, _, _, 0, _, .of a b c t, e => by
    obtain rfl := Option.some.inj e
    exact ⟨_, _, rfl, a⟩
  | _, _, _, i + 1, p, .flat a b t, e => t.kind (i := i) e
  | _, _, _, i + 1, p, .of a b c t, e => t.kind (i := i) e
/-- the list of the ranges of an "of", and what stands behind it -/
theorem PtsAt.split {K : Frag} {H : Hp} : ∀ {xs : List V} {ps : List Pt} {rs : List Addr} {i : Nat} {no : Bool} {l : List (Nat × Nat)}, PtsAt K H xs ps rs → ps[i]? = some (.of no l) →
    ∃ t r rs1 rs2, xs[i]? = some (.ref t) ∧ SqT K H t [.str "of", .bl no, .ref r] ∧ rs = rs1 ++ r :: rs2 ∧ PtsAt K H (xs.drop (i + 1)) (ps.drop (i + 1)) rs2
  | _, _, _, _, _, _, .nil, e => by cases e
  | _, _, _, 0, _, _, .flat a b t, e => by
    obtain rfl := Option.some.inj e
    cases a
  | _, _, _, 0, _, _, .of a b c t, e => by
    injection Option.some.inj e with e1 e2
    subst e1
    subst e2
    exact ⟨_, _, [], _, rfl, a, rfl, t⟩
  | _, _, _, i + 1, _, _, .flat a b t, e => by
    obtain ⟨t', r, rs1, rs2, h1, h2, h3, h4⟩ := t.split (i := i) e
    exact ⟨t', r, rs1, rs2, h1, h2, h3, h4⟩
  | _, _, _, i + 1, _, _, .of (r := r0) a b c t, e => by
    obtain ⟨t', r, rs1, rs2, h1, h2, h3, h4⟩ := t.split (i := i) e
    exact ⟨t', r, r0 :: rs1, rs2, h1, h2, by rw [h3]; rfl, h4⟩
theorem PtsAt.few {K : Frag} {H : Hp} : ∀ {xs : List V} {ps : List Pt} {rs : List Addr}, PtsAt K H xs ps rs → (∀ p ∈ ps, p.few) → ∀ r ∈ rs, ∃ ys, H r = some (.lst ys) ∧ ys.length ≤ 300
  | _, _, _, .nil, _, r, m => by cases m
  | _, _, _, .flat a b t, h, r, m => t.few (fun p q => h p (.tail _ q)) r m
  | _, _, _, .of (l := l) a b c t, h, r, m => by
    rcases List.mem_cons.mp m with rfl | m
    · have z : l.length ≤ 300 := h _ (.head _)
      have lc := dpLen c
      rw [List.length_map] at lc
      exact ⟨_, b, by omega⟩
    · exact t.few (fun p q => h p (.tail _ q)) r m
theorem setsOf_succ (ps : List Pt) (i : Nat) {p : Pt} (h : ps[i]? = some p) : setsOf ps (i + 1) = setsOf ps i ++ (if isOf p = true then [i] else []) := by
  unfold setsOf
  rw [List.range_succ, List.filter_append]
  congr 1
  rw [List.filter_cons, List.filter_nil, h]
  rfl
theorem setsOf_nodup (ps : List Pt) (n : Nat) : (setsOf ps n).Nodup := List.Pairwise.filter _ List.nodup_range
theorem setsOf_of {ps : List Pt} {n k : Nat} (h : k ∈ setsOf ps n) : ∃ no l, ps[k]? = some (.of no l) := by
  unfold setsOf at h
  have z := (List.mem_filter.mp h).2
  cases e : ps[k]? with
  | none => rw [e] at z; cases z
  | some p =>
    rw [e] at z
    cases p with
    | of no l => exact ⟨no, l, rfl⟩
    | one c => cases z
    | any => cases z
    | lot => cases z
abbrev oth : List (Key × V) := [(Sum.inr "firm", .str "firm"), (Sum.inr "cut", .str "cut"), (Sum.inr "bare", .str "loose"), (Sum.inr "loose", .str "bare")]
theorem oth_val : ∀ m ∈ (["firm", "cut", "bare", "loose"] : List Str), valV (mergeK [] oth) (Sum.inr m) = some (V.str (fl m)) := by decide +kernel
theorem turn_len (ps : List Pr) : (ps.map turn).length = ps.length := List.length_map ..
def spHo (K : Frag) : Sp := fun vs H Q _ => ∃ (v : V) (ps : List Pr) (i : Nat), vs = [v, .int (i : Nat)] ∧ Dp K H v (.list (ps.map prD)) ∧ ps.length ≤ 299 ∧ (∀ p ∈ ps, okPr p) ∧ ∀ H', Same H H' → Q (.bl true) H'
section
variable {P : Program} {w : World} {K : Frag} {mg : Str → Option Value} {base : Heap}
abbrev sHo : Stmt := top 31
abbrev nHo : List Str := ["_law_pairs_here", "_law_place", "_law_due", "_law_passed", "_law_found", "_law_sets", "_law_k", "_law_ranges", "_law_others", "_law_turned", "_law_sign", "_law_mark"]
theorem scHo : FnScope nHo ["_law_pairs_here", "_law_place"] (defScope sHo) := ⟨rfl, rfl, rfl, by decide +kernel, rfl, by decide +kernel, by decide +kernel⟩
theorem has_Ho {f : Addr} {fd : FuncData} (F : Fun K "_law_holds" "_law_holds" sHo f fd) (g : mg "_law_holds" = some (.ref f)) (B : Blt mg) (hRd : Has P w K mg base 2 "_law_read" ["_law_all_pairs"] (spRd K)) (hPo : HasK P w K mg base 3 "pattern_of" ["signs"] (spPo K)) (hPa : HasK P w K mg base 4 "is_pattern" ["pattern"] (spPa K)) (hSm : Has P w K mg base 6 "_law_same" ["_law_found", "_law_due"] (spSm K 5)) :
    Has P w K mg base 7 "_law_holds" ["_law_pairs_here", "_law_place"] (spHo K) := by
  obtain ⟨fRd, dRd, gRd, kRd, bRd, GRd⟩ := hRd
  obtain ⟨fPo, dPo, gPo, kPo, bPo, cPo, GPo⟩ := hPo
  obtain ⟨fPa, dPa, gPa, kPa, bPa, cPa, GPa⟩ := hPa
  obtain ⟨fSm, dSm, gSm, kSm, bSm, GSm⟩ := hSm
  refine has_of F g (F.binds (ps := ["_law_pairs_here", "_law_place"]) fun _ _ _ _ _ _ us hl => match us, hl with | [_, _], _ => rfl) (F.ok scHo (fun vs H Q E h => ?_) (fun cdv A outer s H vs Q E hr h => ?_))
  · obtain ⟨v, ps, i, rfl, _⟩ := h
    rfl
  · have hu := hu_of hr
    refine ⟨_, (pss_cons (ps_set (i := 2) scHo.nd rfl (.inl rfl) (pe_call GRd (hr.mono (by decide)) rfl gRd kRd bRd .nil pass0 (pa_cons (pv 0) pa_nil)))
        (pss_cons (ps_set (i := 3) scHo.nd rfl (.inl rfl) (pe_callTy call_list_of (by rfl) B.list (by decide +kernel) (pa_cons (pv 0) pa_nil)))
        (pss_cons (ps_set (i := 4) scHo.nd rfl (.inr rfl) (pe_callKw GPo (hr.mono (by decide)) rfl gPo kPo cPo pass0 (pk_cons (pv 3) pk_nil)))
        (pss_cons (ps_if (PW.pt (pw_or (pt_not (pt_val (pe_call GSm hr rfl gSm kSm bSm .nil pass0 (pa_cons (pv 4) (pa_cons (pv 2) pa_nil))))) (pw_or (pt_cmpR (op_neD hr.units) (pv 3) (pv 0) (nomark _)) (pw_or1 (pt_cmpR op_isnot_bl (pe_callKw GPa (hr.mono (by decide)) rfl gPa kPa cPa pass0 (pk_cons (pv 4) pk_nil)) pe_bl (nomark _)))))) (pss_one (ps_ret pe_bl)) pss_nil)
        (pss_cons (ps_expr (pe_bm PySem.F.plainAttrs_list PySem.F.slot_list_append PySem.F.type_list_append mt_append (pv 3) (pa_cons (pe_tup (pa_cons pe_str (pa_cons pe_str pa_nil))) pa_nil)))
        (pss_cons (ps_if (pt_not (pt_val (pe_call GSm hr rfl gSm kSm bSm .nil pass0 (pa_cons (pv 4) (pa_cons (pv 2) pa_nil))))) (pss_one (ps_ret pe_bl)) pss_nil)
        (pss_cons (ps_setLc (tt := tTest (tOp rEq (tOp (rIxT K) (tOp (rIxL K) (tVar 4) (tVar 6)) (tC (.int 0))) (tC (.str "of")))) (i := 5) (own := [("_law_k", 6)]) (g := gName 6) rfl scHo.nd rfl rfl (sw_true rfl rfl rfl (by decide +kernel)) (pi_range1 (by rfl) B.range (pa_cons (pe_callB call_len_seq (by rfl) B.len PySem.boot_len (pa_cons (pv 4) pa_nil)) pa_nil)) (blkOk_by (N := nHo) (sc := defScope sHo) (by decide +kernel)) (fun _ _ _ _ _ => pg_name (i := 6) scHo.nd rfl (.inl rfl)) (fun _ _ _ _ _ => pts_one (pt_cmpR op_eq (pe_ix ix_tup (pe_ix ix_list (pv 4) (pv 6) (fun _ _ => rfl)) pe_int (fun _ _ => rfl)) pe_str (nomark _))) (fun _ _ _ _ _ => (pv 6)))
        (pss_cons (ps_for PassesOwn.never rfl (pi_list (pv 5)) (pg_name (i := 6) scHo.nd rfl (.inl rfl))
          (pss_cons (ps_set (i := 7) scHo.nd rfl (.inl rfl) (pe_ix ix_tup (pe_ix ix_list (pv 4) (pv 6) (fun _ _ => rfl)) pe_int (fun _ _ => rfl)))
          (pss_cons (ps_expr (pe_bm PySem.F.plainAttrs_list PySem.F.slot_list_append PySem.F.type_list_append mt_append (pv 7) (pa_cons (pe_tup (pa_cons pe_str (pa_cons pe_str pa_nil))) pa_nil)))
          (pss_one (ps_if (PW.pt (pw_and (pt_cmpR op_eq (pv 6) (pe_ix ix_list (pv 5) pe_int (fun _ _ => rfl)) (nomark _)) (pw_and1 (pt_not (pt_val (pe_call GSm hr rfl gSm kSm bSm .nil pass0 (pa_cons (pe_slice sl_list (pv 4) (po_some (pe_op op_add (pv 6) pe_int)) po_none) (pa_cons (pe_slice sl_list (pv 2) (po_some (pe_op op_add (pv 6) pe_int)) po_none) pa_nil)))))))) (pss_one (ps_ret pe_bl)) pss_nil)))))
        (pss_cons (ps_expr (pe_bm PySem.F.plainAttrs_list PySem.F.slot_list_append PySem.F.type_list_append mt_append (pv 4) (pa_cons (pe_tup (pa_cons pe_str pa_nil)) pa_nil)))
        (pss_cons (ps_set (i := 8) scHo.nd rfl (.inr rfl) (pe_disp (L2.pps_cons pe_str pe_str (L2.pps_cons pe_str pe_str (L2.pps_cons pe_str pe_str (L2.pps_cons pe_str pe_str L2.pps_nil)))) (by rfl) (by rfl) (fun z => by cases z) (by decide)))
        (pss_cons (ps_setLc (i := 9) (own := [("_law_sign", 10), ("_law_mark", 11)]) (g := gTup K 2 (gCons (gName 10) (gCons (gName 11) gNil))) (tt := tYes) rfl scHo.nd rfl rfl (sw_true rfl rfl rfl (by decide +kernel)) (pi_list (pv 0)) (blkOk_by (N := nHo) (sc := defScope sHo) (by decide +kernel)) (fun _ _ _ _ _ => pg_tup rfl (pgs_cons (pg_name (i := 10) scHo.nd rfl (.inl rfl)) (pgs_cons (pg_name (i := 11) scHo.nd rfl (.inl rfl)) pgs_nil))) (fun _ _ _ _ _ => pts_nil) (fun _ _ _ _ _ => (pe_tup (pa_cons (pv 10) (pa_cons (pe_dget hu (pv 8) (pv 11) (fun _ _ => rfl)) pa_nil)))))
        (pss_cons (ps_if (pt_not (pt_val (pe_call GSm hr rfl gSm kSm bSm .nil pass0 (pa_cons (pe_call GPo (hr.mono (by decide)) rfl gPo kPo bPo .nil pass0 (pa_cons (pe_op op_cat (pe_op op_cat (pe_slice sl_list (pv 9) po_none (po_some (pv 1))) (pe_lst (pa_cons (pe_tup (pa_cons pe_str (pa_cons pe_str pa_nil))) pa_nil))) (pe_slice sl_list (pv 9) (po_some (pv 1)) po_none)) pa_nil)) (pa_cons (pv 2) pa_nil))))) (pss_one (ps_ret pe_bl)) pss_nil)
        (pss_one (ps_ret (pe_call GSm hr rfl gSm kSm bSm .nil pass0 (pa_cons (pe_call GPo (hr.mono (by decide)) rfl gPo kPo bPo .nil pass0 (pa_cons (pe_callTy call_list_of (by rfl) B.list (by decide +kernel) (pa_cons (pv 0) pa_nil)) pa_nil)) (pa_cons (pv 2) pa_nil))))))))))))))))), ?_⟩
    obtain ⟨v, ps, i, rfl, hd, hl, ok, k⟩ := h
    obtain ⟨a, xs, rfl, hq, all⟩ := dp_lst hd
    have lx := dpLen all
    rw [List.length_map] at lx
    have pg := pat_good ok (by omega)
    have pl := pat_len ps
    have pls : Pl 4 (.list ((patOf ps).map Pt.d)) := pl_pts (fun p m => (pg p m).2) (by omega)
    refine ⟨_, rfl, .ref a, ps, rfl, hd, by omega, fun H1 due s1 dd => ?_⟩
    refine ⟨_, rfl, a, xs, rfl, .inl (s1.seq hq), fun L nL => ?_⟩
    have s2 := same_upd (o := .lst xs) nL
    have dL : Dp K (L2.upd H1 L (.lst xs)) (.ref L) (.list (ps.map prD)) := .lst (SqL.of upd_same) (dpAll_same (s1.trans s2) all)
    refine ⟨_, rfl, .ref L, ps, rfl, dL, by omega, fun H3 R zs rs nw => ?_⟩
    have s3 := nw.base
    have hL3 : H3 L = some (.lst xs) := s3 _ _ upd_same
    have dF : Dp K H3 (.ref R) (.list ((patOf ps).map Pt.d)) := .lst (SqL.of nw.at_) nw.pts.dp
    refine ⟨_, rfl, _, rfl, .ref R, due, _, rfl, dF, dp_same (s2.trans s3) dd, pls, fun H4 s4 => ⟨_, rfl, if_no rfl ?_⟩⟩
    refine ⟨_, rfl, _, rfl, _, _, dp_same (s3.trans s4) dL, dp_same ((s1.trans s2).trans (s3.trans s4)) hd, sh_ok (sh_prs ok), sh_ok (sh_prs ok), _, rfl, if_no (by rw [SeqAt.eqv_refl _ (sh_prs ok).1]; rfl) ?_⟩
    refine ⟨_, rfl, .ref R, patOf ps, rfl, dp_same s4 dF, by omega, pg, fun H5 s5 => ⟨_, _, rfl, rfl, _, rfl, if_no (by decide) ?_⟩⟩
    have s45 := s4.trans s5
    have hL5 : H5 L = some (.lst xs) := s45 _ _ hL3
    refine ⟨_, rfl, .inl ⟨rfl, _, SqL.of hL5⟩, (by decide : 2 ≤ sizeLine), fun T nT => ⟨L, xs, _, rfl, rfl, same_upd nT _ _ hL5, ?_, ?_⟩⟩
    · rw [lx, sizeLine_eq]; omega
    -- the passed list is changed
    have nL0 : H L = none := s1.free nL
    have b5 := nw.keep s45
    have neR : R ≠ L := fun e => by
      have z := nw.new
      rw [e, upd_same] at z
      cases z
    have ner : ∀ r ∈ rs, r ≠ L := fun r m e => by
      have z := nw.fresh r m
      rw [e, upd_same] at z
      cases z
    have hT := same_upd (o := .tup [.str "*", .str "bare"]) nT
    have hL5' := hT _ _ hL5
    have s15 : Same H1 H5 := s2.trans (s3.trans s45)
    have s16 : Same H1 (L2.upd (L2.upd H5 T (.tup [.str "*", .str "bare"])) L (.lst (xs ++ [.ref T]))) := same_upd2 (s15.trans hT) nL
    have t56 : Tups H5 (L2.upd (L2.upd H5 T (.tup [.str "*", .str "bare"])) L (.lst (xs ++ [.ref T]))) := (Tups.of hT).trans (Tups.put hL5')
    have r56 : ∀ r, r ≠ L → H5 r ≠ none → (L2.upd (L2.upd H5 T (.tup [.str "*", .str "bare"])) L (.lst (xs ++ [.ref T]))) r = H5 r := fun r n1 n2 => by
      rw [upd_ne n1, upd_ne (fun e => n2 (by rw [e]; exact nT))]
    generalize L2.upd (L2.upd H5 T (.tup [.str "*", .str "bare"])) L (.lst (xs ++ [.ref T])) = H6 at s16 t56 r56 ⊢
    have hR6 : H6 R = some (.lst zs) := by rw [r56 R neR (by rw [b5.at_]; simp), b5.at_]
    have p6 : PtsAt K H6 zs (patOf ps) rs := b5.pts.keep t56 fun r m => r56 r (ner r m) (by obtain ⟨ys, h⟩ := b5.pts.lst r m; rw [h]; simp)
    have lz := p6.len
    refine ⟨_, rfl, _, rfl, .ref R, due, _, rfl, .lst (SqL.of hR6) p6.dp, dp_same s16 dd, pls, fun H7 s7 => ⟨_, rfl, if_no rfl ?_⟩⟩
    have hR7 := s7 _ _ hR6
    have p7 := p6.keep (Tups.of s7) fun r m => by
      obtain ⟨ys, h⟩ := p6.lst r m
      rw [h, s7 _ _ h]
    have s17 := s16.trans s7
    refine ⟨_, rfl, R, zs, rfl, .inl (SqL.of hR7), _, rfl, by omega, by omega, fun D hD => lc_it (walk_range (lo := 0) (n := zs.length)) (fun j H' => Same H7 H' ∧ H' D = some (.lst ((setsOf (patOf ps) j).map fun k => V.int (k : Nat)))) ⟨same_upd hD, upd_same⟩ (fun _ _ _ _ => trivial) (fun j x H' H2 hj e y => ?_) (fun H8 e => ?_)⟩
    · obtain ⟨s8, hDt⟩ := e
      obtain ⟨rfl, rfl⟩ := y
      obtain ⟨p, hp⟩ : ∃ p, (patOf ps)[j]? = some p := ⟨_, List.getElem?_eq_getElem (by omega)⟩
      obtain ⟨t, ys, hx, ht⟩ := p7.kind hp
      refine ⟨rfl, _, rfl, _, rfl, R, zs, _, _, rfl, rfl, SqL.of (s8 _ _ hR7), by rw [Int.zero_add]; exact atI_nat hx, t, _, _, _, rfl, rfl, sqT_same s8 ht, atI_nat (j := 0) rfl, rfl, _, rfl, ?_⟩
      rw [knd_of, setsOf_succ _ _ hp]
      refine if_by (fun e => ⟨_, rfl, _, hDt, ?_, same_upd2 s8 hD, ?_⟩) (fun e => ?_)
      · rw [List.length_map, sizeLine_eq]
        have : (setsOf (patOf ps) j).length ≤ j := by
          unfold setsOf
          exact Nat.le_trans (List.length_filter_le _ _) (by simp)
        omega
      · rw [upd_same, if_pos e, List.map_append]
        show some (HO.lst (_ ++ [V.int (0 + ((j : Nat) : Int))])) = _
        rw [Int.zero_add]
        rfl
      · rw [if_neg (by rw [e]; decide), List.append_nil]
        exact ⟨s8, hDt⟩
    obtain ⟨s8, hDt⟩ := e
    rw [lz] at hDt
    obtain ⟨ss, hss⟩ : ∃ ss, ss = setsOf (patOf ps) (patOf ps).length := ⟨_, rfl⟩
    rw [← hss] at hDt
    have hR8 := s8 _ _ hR7
    have p8 := p7.keep (Tups.of s8) fun r m => by
      obtain ⟨ys, h⟩ := p7.lst r m
      rw [h, s8 _ _ h]
    have s18 := s17.trans s8
    have freshH1 : ∀ r ∈ rs, H1 r = none := fun r m => s2.free (nw.fresh r m)
    have nR1 : H1 R = none := s2.free nw.new
    have neD : ∀ r ∈ rs, r ≠ D := fun r m e => by
      obtain ⟨ys, h⟩ := p7.lst r m
      rw [e, hD] at h
      cases h
    have neRD : R ≠ D := fun e => by
      rw [e, hD] at hR7
      cases hR7
    refine ⟨_, rfl, D, rfl, ⟨_, SqL.of hDt⟩, for_list (xs := ss.map fun k => V.int (k : Nat)) (fun j σ H' => (∃ x6 x7 x8 x9 x10 x11, σ = [some (.ref a), some (.int i), some due, some (.ref L), some (.ref R), some (.ref D), x6, x7, x8, x9, x10, x11]) ∧ Same H1 H' ∧ H' R = some (.lst zs) ∧ H' D = some (.lst (ss.map fun k => V.int (k : Nat))) ∧ Tups H8 H' ∧ (∀ r ∈ rs, ∃ ys, H' r = some (.lst ys) ∧ ys.length ≤ 300 + j) ∧ (j = 0 → ∀ r ∈ rs, H' r = H8 r)) ⟨⟨_, _, _, _, _, _, rfl⟩, s18, hR8, hDt, Tups.of (Same.refl H8), ?_, fun _ r _ => rfl⟩ (fun j σ H' _ e => SqL.of e.2.2.2.1) (fun j x σ H' hx e => ?_) (fun σ H' e => ?_)⟩
    · exact fun r m => p8.few (fun p q => (pg p q).2) r m
    · obtain ⟨⟨x6, x7, x8, x9, x10, x11, rfl⟩, s19, hR9, hD9, t9, l9, z9⟩ := e
      obtain ⟨kk, hk, rfl⟩ : ∃ kk, ss[j]? = some kk ∧ V.int (kk : Nat) = x := by
        rw [List.getElem?_map] at hx
        cases z : ss[j]? with
        | none => rw [z] at hx; cases hx
        | some c => rw [z] at hx; exact ⟨c, rfl, Option.some.inj hx⟩
      have jlt := (List.getElem?_eq_some_iff.mp hk).1
      have sslen : ss.length ≤ 300 := by
        rw [hss]
        unfold setsOf
        have := List.length_filter_le (fun k => (((patOf ps)[k]?).map isOf).getD false) (List.range (patOf ps).length)
        rw [List.length_range] at this
        omega
      obtain ⟨k0, hk0⟩ : ∃ k0, ss[0]? = some k0 := ⟨_, List.getElem?_eq_getElem (by omega)⟩
      obtain ⟨no, l, hof⟩ := setsOf_of (by rw [← hss]; exact List.mem_of_getElem? hk)
      obtain ⟨t, r, rs1, rs2, hzk, ht, ers, pd⟩ := p8.split hof
      have mr : r ∈ rs := by rw [ers]; simp
      have nr2 : r ∉ rs2 := by
        have z := nw.nd
        rw [ers] at z
        exact (List.nodup_cons.mp (List.nodup_append.mp z).2.1).1
      obtain ⟨ys, hr9, ly⟩ := l9 r mr
      refine ⟨_, rfl, _, rfl, R, zs, _, _, rfl, rfl, SqL.of hR9, atI_nat hzk, t, _, _, .ref r, rfl, rfl, sqT_tups t9 ht, rfl, ?_⟩
      refine ⟨_, rfl, .inl ⟨rfl, _, SqL.of hr9⟩, (by decide : 2 ≤ sizeLine), fun T2 nT2 => ⟨r, ys, _, rfl, rfl, same_upd nT2 _ _ hr9, by rw [sizeLine_eq]; omega, ?_⟩⟩
      have hT2 := same_upd (o := .tup [.str "a", .str "b"]) nT2
      have c1 : Same H1 (L2.upd (L2.upd H' T2 (.tup [.str "a", .str "b"])) r (.lst (ys ++ [.ref T2]))) := same_upd2 (s19.trans hT2) (freshH1 r mr)
      have keepR : ∀ b o, b ≠ r → H' b = some o → (L2.upd (L2.upd H' T2 (.tup [.str "a", .str "b"])) r (.lst (ys ++ [.ref T2]))) b = some o := fun b o n h => by
        rw [upd_ne n]
        exact hT2 _ _ h
      have c2 := keepR R _ (fun e => nw.off (e ▸ mr)) hR9
      have c3 := keepR D _ (fun e => neD r mr e.symm) hD9
      have c4 : Tups H' (L2.upd (L2.upd H' T2 (.tup [.str "a", .str "b"])) r (.lst (ys ++ [.ref T2]))) := (Tups.of hT2).trans (Tups.put (hT2 _ _ hr9))
      have c5 : ∀ r' ∈ rs, ∃ ys', (L2.upd (L2.upd H' T2 (.tup [.str "a", .str "b"])) r (.lst (ys ++ [.ref T2]))) r' = some (.lst ys') ∧ ys'.length ≤ 300 + (j + 1) := fun r' m => by
        by_cases e : r' = r
        · subst e
          exact ⟨_, upd_same, by rw [List.length_append]; show _ + 1 ≤ _; omega⟩
        · obtain ⟨ys', h', l'⟩ := l9 r' m
          exact ⟨ys', keepR r' _ e h', by omega⟩
      have c6 : j = 0 → PtsAt K (L2.upd (L2.upd H' T2 (.tup [.str "a", .str "b"])) r (.lst (ys ++ [.ref T2]))) (zs.drop (kk + 1)) ((patOf ps).drop (kk + 1)) rs2 := fun j0 => by
        have m2 : ∀ r' ∈ rs2, r' ∈ rs := fun r' m => by rw [ers]; simp [m]
        have z := pd.keep t9 fun r' m => z9 j0 r' (m2 r' m)
        refine z.keep c4 fun r' m => ?_
        obtain ⟨ys', h', _⟩ := l9 r' (m2 r' m)
        rw [h', keepR r' _ (fun e => nr2 (e ▸ m)) h']
      generalize L2.upd (L2.upd H' T2 (.tup [.str "a", .str "b"])) r (.lst (ys ++ [.ref T2])) = H10 at c1 c2 c3 c4 c5 c6 ⊢
      refine ⟨_, rfl, _, rfl, D, _, _, _, rfl, rfl, SqL.of c3, atI_nat (j := 0) (by rw [List.getElem?_map, hk0]; rfl), rfl, _, rfl, ?_⟩
      by_cases j0 : j = 0
      · have ek : kk = k0 := by
          rw [j0, hk0] at hk
          exact (Option.some.inj hk).symm
        refine if_yes (by rw [ek]; simp) ?_
        obtain ⟨ad, dxs, rfl, hqd, alld⟩ := dp_lst (dp_same c1 dd)
        refine ⟨_, rfl, _, rfl, _, _, rfl, rfl, _, rfl, R, zs, rfl, SqL.of c2, fun p np => ?_⟩
        have s11 := same_upd (o := .lst (cutV zs (some (((kk : Nat) : Int) + 1)) none)) np
        refine ⟨_, rfl, _, rfl, _, _, rfl, rfl, _, rfl, ad, dxs, rfl, s11.seq hqd, fun p2 np2 => ?_⟩
        have s12 := same_upd (o := .lst (cutV dxs (some (((kk : Nat) : Int) + 1)) none)) np2
        refine ⟨.ref p, .ref p2, .list (((patOf ps).drop (kk + 1)).map Pt.d), rfl, dp_same s12 (.lst (SqL.of upd_same) ?_), .lst (SqL.of upd_same) ?_, pl_pts (fun q m => (pg q (List.mem_of_mem_drop m)).2) (by rw [List.length_drop]; omega), fun H11 s13 => ⟨_, rfl, if_no rfl ?_⟩⟩
        · rw [show cutV zs (some (((kk : Nat) : Int) + 1)) none = zs.drop (kk + 1) from cut_from zs (kk + 1)]
          exact dpAll_same (same_upd np) (c6 j0).dp
        · rw [show cutV dxs (some (((kk : Nat) : Int) + 1)) none = dxs.drop (kk + 1) from cut_from dxs (kk + 1), List.map_drop]
          exact dpAll_same (s11.trans (same_upd np2)) (dpDrop (kk + 1) alld)
        · have sA : Same H10 H11 := s11.trans (s12.trans s13)
          exact ⟨⟨_, _, _, _, _, _, rfl⟩, c1.trans sA, sA _ _ c2, sA _ _ c3, t9.trans (c4.trans (Tups.of sA)), (fun r' m => by obtain ⟨ys', h', l'⟩ := c5 r' m; exact ⟨ys', sA _ _ h', l'⟩), fun z => by omega⟩
      · refine if_no ?_ (if_no rfl ?_)
        · refine decide_eq_false fun z => ?_
          have e : kk = k0 := by have := V.int.inj z; omega
          have nd := setsOf_nodup (patOf ps) (patOf ps).length
          rw [← hss] at nd
          have g1 := (List.getElem?_eq_some_iff.mp hk).2
          have g0 := (List.getElem?_eq_some_iff.mp hk0).2
          have q := List.pairwise_iff_getElem.mp nd 0 j (by omega) jlt (by omega)
          rw [g0, g1] at q
          exact q e.symm
        · exact ⟨⟨_, _, _, _, _, _, rfl⟩, c1, c2, c3, t9.trans c4, c5, fun z => by omega⟩
    · obtain ⟨⟨x6, x7, x8, x9, x10, x11, rfl⟩, s19, hR9, hD9, t9, l9, _⟩ := e
      refine ⟨_, rfl, .inl ⟨rfl, _, SqL.of hR9⟩, (by decide : 1 ≤ sizeLine), fun T3 nT3 => ⟨R, zs, _, rfl, rfl, same_upd nT3 _ _ hR9, by rw [lz, sizeLine_eq]; omega, ?_⟩⟩
      have s20 : Same H1 (L2.upd (L2.upd H' T3 (.tup [.str "lot"])) R (.lst (zs ++ [.ref T3]))) := same_upd2 (s19.trans (same_upd nT3)) nR1
      generalize L2.upd (L2.upd H' T3 (.tup [.str "lot"])) R (.lst (zs ++ [.ref T3])) = H12 at s20 ⊢
      refine fun pd npd => ⟨upd_same, oth, rfl, by decide, ?_⟩
      have s21 : Same H12 (L2.upd (L2.upd H12 pd (.dK [])) pd (.dK (mergeK [] oth))) := same_upd2 (same_upd npd) npd
      have hM : (L2.upd (L2.upd H12 pd (.dK [])) pd (.dK (mergeK [] oth))) pd = some (.dK (mergeK [] oth)) := upd_same
      generalize L2.upd (L2.upd H12 pd (.dK [])) pd (.dK (mergeK [] oth)) = H13 at s21 hM ⊢
      have s22 := s20.trans s21
      have s23 := s1.trans s22
      refine ⟨_, rfl, a, rfl, ⟨_, s23.seq hq⟩, fun D3 hD3 => lc_it (walk_list (xs := xs)) (fun i H' => Bld K H13 H' D3 (((ps.take i).map turn).map prD)) (Bld.new hD3) (fun i H' _ e => (s23.trans e.base).seq hq) (fun i x H' H2 hi e y => ?_) (fun H14 e => ?_)⟩
      · obtain ⟨rfl, hx⟩ := y
        obtain ⟨d, hdi, dp⟩ := dpAt' all hx
        rw [List.getElem?_map] at hdi
        obtain ⟨p, hp, rfl⟩ : ∃ p, ps[i]? = some p ∧ prD p = d := by
          cases z : ps[i]? with
          | none => rw [z] at hdi; cases hdi
          | some p => rw [z] at hdi; exact ⟨p, rfl, Option.some.inj hdi⟩
        obtain ⟨t, rfl, ht⟩ := pr_two (dp_same (s23.trans e.base) dp)
        have okp := ok p (List.mem_of_getElem? hp)
        have hg := DGet.k (k := Sum.inr p.2) (e.base _ _ hM)
        rw [oth_val _ okp.2] at hg
        refine ⟨t, _, rfl, ht, rfl, _, _, rfl, _, _, rfl, rfl, rfl, _, rfl, _, rfl, _, rfl, pd, _, rfl, hg, (by decide : 2 ≤ sizeLine), fun T nT => ?_⟩
        obtain ⟨ys, hy, ly, put⟩ := (e.same (same_upd (o := .tup [.str (tx p.1), .str (fl p.2)]) nT)).put
        refine ⟨ys, hy, ?_, ?_⟩
        · rw [ly, List.length_map, List.length_map, List.length_take, sizeLine_eq]
          omega
        · rw [take_snoc hp, List.map_append, List.map_append]
          exact put _ _ (e.two nT _ _)
      · rw [lx, List.take_length] at e
        have e0 := e.base
        have dT := e.dp
        obtain ⟨n3, _, ts, hts, ats⟩ := e
        have lts := dpLen ats
        rw [List.length_map, List.length_map] at lts
        have ats := dpAll_same hide_same ats
        have s24 := s22.trans e0
        refine ⟨_, rfl, _, rfl, _, rfl, D3, ts, rfl, SqL.of hts, fun p1 np1 => ?_⟩
        have ec1 : cutV ts none (some ((i : Nat) : Int)) = ts.take i := cut_to ts i
        have v1 := same_upd (o := .lst (cutV ts none (some ((i : Nat) : Int)))) np1
        refine ⟨(by decide : 2 ≤ sizeLine), fun T nT => ⟨(by decide : 1 ≤ sizeLine), fun L4 nL4 => ?_⟩⟩
        have v2 := same_upd (o := .tup [.str "", .str "firm"]) nT
        have v3 := same_upd (o := .lst [.ref T]) nL4
        refine ⟨p1, L4, _, _, rfl, rfl, v3 _ _ (v2 _ _ upd_same), upd_same, ?_, fun q nq => ?_⟩
        · rw [ec1, List.length_take, sizeLine_eq]
          show _ + 1 ≤ _
          omega
        have v4 := same_upd (o := .lst (cutV ts none (some ((i : Nat) : Int)) ++ [.ref T])) nq
        have v14 := v1.trans (v2.trans (v3.trans v4))
        refine ⟨_, rfl, _, rfl, _, rfl, D3, ts, rfl, SqL.of (v14 _ _ hts), fun p2 np2 => ?_⟩
        have ec2 : cutV ts (some ((i : Nat) : Int)) none = ts.drop i := cut_from ts i
        have v5 := same_upd (o := .lst (cutV ts (some ((i : Nat) : Int)) none)) np2
        refine ⟨q, p2, _, _, rfl, rfl, v5 _ _ upd_same, upd_same, ?_, fun q2 nq2 => ?_⟩
        · rw [ec1, ec2, List.length_append, List.length_take, List.length_drop, sizeLine_eq]
          show _ + 1 + _ ≤ _
          omega
        have v6 := same_upd (o := .lst (cutV ts none (some ((i : Nat) : Int)) ++ [.ref T] ++ cutV ts (some ((i : Nat) : Int)) none)) nq2
        have v16 := v14.trans (v5.trans v6)
        have dTup : Dp K (L2.upd (L2.upd (L2.upd H14 p1 (.lst (cutV ts none (some ((i : Nat) : Int))))) T (.tup [.str "", .str "firm"])) L4 (.lst [.ref T])) (.ref T) (prD hole) := .tup (SqT.of (v3 _ _ upd_same)) (.cons (.str _) (.cons (.str _) .nil))
        have dAll : DpAll K (L2.upd (L2.upd (L2.upd (L2.upd (L2.upd (L2.upd H14 p1 (.lst (cutV ts none (some ((i : Nat) : Int))))) T (.tup [.str "", .str "firm"])) L4 (.lst [.ref T])) q (.lst (cutV ts none (some ((i : Nat) : Int)) ++ [.ref T]))) p2 (.lst (cutV ts (some ((i : Nat) : Int)) none))) q2 (.lst (cutV ts none (some ((i : Nat) : Int)) ++ [.ref T] ++ cutV ts (some ((i : Nat) : Int)) none))) (cutV ts none (some ((i : Nat) : Int)) ++ [.ref T] ++ cutV ts (some ((i : Nat) : Int)) none) (((ps.map turn).take i ++ [hole] ++ (ps.map turn).drop i).map prD) := by
          rw [List.map_append, List.map_append, List.map_take, List.map_drop]
          have z1 := dpAll_same v16 (dpTake i ats)
          have z2 := dpAll_same v16 (dpDrop i ats)
          have z3 := dp_same (v4.trans (v5.trans v6)) dTup
          rw [← ec1] at z1
          rw [← ec2] at z2
          exact dpApp (dpApp z1 (.cons z3 .nil)) z2
        refine ⟨.ref q2, (ps.map turn).take i ++ [hole] ++ (ps.map turn).drop i, rfl, .lst (SqL.of upd_same) dAll, ?_, fun H15 R2 zs2 rs2 nw2 => ?_⟩
        · rw [List.length_append, List.length_append, List.length_take, List.length_drop, turn_len]
          show _ + 1 + _ ≤ _
          omega
        rw [pat_put] at nw2
        have s25 := s24.trans (v16.trans nw2.base)
        refine ⟨_, rfl, .ref R2, due, _, rfl, .lst (SqL.of nw2.at_) nw2.pts.dp, dp_same s25 dd, pls, fun H16 s26 => ⟨_, rfl, if_no rfl ?_⟩⟩
        have s27 := s25.trans s26
        refine ⟨_, rfl, a, xs, rfl, .inl ((s1.trans s27).seq hq), fun L5 nL5 => ?_⟩
        have w1 := same_upd (o := .lst xs) nL5
        refine ⟨.ref L5, ps, rfl, .lst (SqL.of upd_same) (dpAll_same ((s1.trans s27).trans w1) all), by omega, fun H17 R3 zs3 rs3 nw3 => ?_⟩
        have s28 := s27.trans (w1.trans nw3.base)
        exact ⟨_, rfl, .ref R3, due, _, rfl, .lst (SqL.of nw3.at_) nw3.pts.dp, dp_same s28 dd, pls, fun H18 s29 => k _ (s1.trans (s28.trans s29))⟩
end
end Qb
end PySem
namespace PySem
namespace Qb
open PySem.W PySem.Calls PyProof.Rows L2
def lineOf (ps : List Pr) : List Nat := (rowOf ps).map (·.1)
theorem tl_tx (o : Option Nat) : TL.tl (tx o) = (match o with | some c => [c] | none => []) := by
  cases o <;> rfl
theorem joinL_flat : ∀ ls : List (List Nat), TL.joinL [] ls = ls.flatten
  | [] => rfl
  | [c] => by show c = _; simp
  | c :: d :: r => by
    show c ++ ([] ++ TL.joinL [] (d :: r)) = _
    rw [joinL_flat (d :: r)]
    rfl
theorem flat_tx : ∀ ps : List Pr, ((ps.map fun p => tx p.1).map TL.tl).flatten = lineOf ps
  | [] => rfl
  | p :: ps => by
    have ih := flat_tx ps
    rw [List.map_cons, List.map_cons, List.flatten_cons, ih, tl_tx]
    obtain ⟨o, m⟩ := p
    cases o <;> rfl
theorem join_tx (ps : List Pr) : Txt.join "" (ps.map fun p => tx p.1) = (⟨(lineOf ps).toArray⟩ : Str) := by
  refine str_ext ?_
  rw [TL.join_eq]
  have e : cs (Str.join "" (ps.map fun p => tx p.1)) = TL.joinL [] ((ps.map fun p => tx p.1).map TL.tl) := TL.tl_join "" (ps.map fun p => tx p.1)
  rw [e, joinL_flat, flat_tx]
theorem sum_tx : ∀ ps : List Pr, ((ps.map fun p => tx p.1).map (·.length)).sum ≤ ps.length
  | [] => Nat.le_refl _
  | p :: ps => by
    have ih := sum_tx ps
    rw [List.map_cons, List.map_cons, List.sum_cons, List.length_cons]
    have : (tx p.1).length ≤ 1 := by
      cases p.1 with
      | none => exact Nat.zero_le _
      | some c => exact Nat.le_refl _
    omega
theorem line_ok {ps : List Pr} (h : ∀ p ∈ ps, okPr p) : ∀ c ∈ lineOf ps, c ∈ cs signsS := fun c m => by
  obtain ⟨r, mr, rfl⟩ := List.mem_map.mp m
  exact row_ok h r mr
theorem pats_line (ps : List Pr) : (patOf (firmOf ps)).map Pt.d = ((lineOf ps).map Pt.one).map Pt.d := by
  rw [pat_firm]
  unfold lineOf
  rw [List.map_map (g := Pt.one)]
  rfl
def lawSp (K : Frag) : Sp := fun vs H Q _ => ∃ (a : Addr) (ns : List Int), vs = [.ref a] ∧ SqL K H a (ns.map V.int) ∧ ns.length ≤ 63 ∧ ∀ H', Q (.bl true) H'
section
variable {P : Program} {w : World} {K : Frag} {mg : Str → Option Value} {base : Heap}
abbrev sLw : Stmt := top 32
abbrev nLw : List Str := ["_law_script", "_law_every", "_law_at", "_law_purse_here", "_law_place", "_law_pairs_here", "_law_line", "_law_sign", "_law_mark", "_law_firm"]
theorem scLw : FnScope nLw ["_law_script"] (defScope sLw) := ⟨rfl, rfl, rfl, by decide +kernel, rfl, by decide +kernel, by decide +kernel⟩
theorem ok_Lw {f : Addr} {fd : FuncData} (F : Fun K "law" "law" sLw f fd) (B : Blt mg) (hPu : Has P w K mg base 1 "_law_purse" ["_law_script", "_law_at"] (spPu K)) (hCo : Has P w K mg base 1 "_law_coin" ["_law_purse_here", "_law_many"] spCo) (hPr : Has P w K mg base 2 "_law_pairs" ["_law_purse_here"] (spPr K)) (hHo : Has P w K mg base 7 "_law_holds" ["_law_pairs_here", "_law_place"] (spHo K)) (hLt : HasK P w K mg base 6 "least_text" ["pattern"] (spLt K)) (hPo : HasK P w K mg base 3 "pattern_of" ["signs"] (spPo K)) :
    FnOk P w K mg base CX0 8 f fd ["_law_script"] (lawSp K) := by
  obtain ⟨fPu, dPu, gPu, kPu, bPu, GPu⟩ := hPu
  obtain ⟨fCo, dCo, gCo, kCo, bCo, GCo⟩ := hCo
  obtain ⟨fPr, dPr, gPr, kPr, bPr, GPr⟩ := hPr
  obtain ⟨fHo, dHo, gHo, kHo, bHo, GHo⟩ := hHo
  obtain ⟨fLt, dLt, gLt, kLt, bLt, cLt, GLt⟩ := hLt
  obtain ⟨fPo, dPo, gPo, kPo, bPo, cPo, GPo⟩ := hPo
  refine (F.ok scLw (fun vs H Q E h => ?_) (fun cdv A outer s H vs Q E hr h => ?_))
  · obtain ⟨a, ns, rfl, _⟩ := h
    rfl
  · refine ⟨_, (pss_cons (ps_set (i := 1) scLw.nd rfl (.inl rfl) (pe_lst pa_nil))
        (pss_cons (ps_for PassesOwn.never rfl (pi_range1 (by rfl) B.range (pa_cons (pe_callB (call_max2 rfl) (by rfl) B.max (by decide +kernel) (pa_cons pe_int (pa_cons (pe_callB (call_min2 rfl) (by rfl) B.min (by decide +kernel) (pa_cons pe_int (pa_cons (pe_callB call_len_seq (by rfl) B.len PySem.boot_len (pa_cons (pv 0) pa_nil)) pa_nil))) pa_nil))) pa_nil)) (pg_name (i := 2) scLw.nd rfl (.inl rfl))
          (pss_cons (ps_set (i := 3) scLw.nd rfl (.inl rfl) (pe_call GPu (hr.mono (by decide)) rfl gPu kPu bPu .nil pass0 (pa_cons (pv 0) (pa_cons (pv 2) pa_nil))))
          (pss_cons (ps_set (i := 4) scLw.nd rfl (.inl rfl) (pe_call GCo (hr.mono (by decide)) rfl gCo kCo bCo .nil pass0 (pa_cons (pv 3) (pa_cons pe_int pa_nil))))
          (pss_cons (ps_set (i := 5) scLw.nd rfl (.inl rfl) (pe_call GPr (hr.mono (by decide)) rfl gPr kPr bPr .nil pass0 (pa_cons (pv 3) pa_nil)))
          (pss_cons (ps_if (pt_not (pt_val (pe_call GHo hr rfl gHo kHo bHo .nil pass0 (pa_cons (pv 5) (pa_cons (pv 4) pa_nil))))) (pss_one (ps_ret pe_bl)) pss_nil)
          (pss_one (ps_set (i := 1) scLw.nd rfl (.inl rfl) (pe_op op_cat (pv 1) (pv 5)))))))))
        (pss_cons (ps_set (i := 1) scLw.nd rfl (.inl rfl) (pe_slice sl_list (pv 1) po_none (po_some pe_int)))
        (pss_cons (ps_set (i := 6) scLw.nd rfl (.inl rfl) (pe_join pe_str (pe_lc (own := [("_law_sign", 7), ("_law_mark", 8)]) (g := gTup K 2 (gCons (gName 7) (gCons (gName 8) gNil))) (tt := tYes) rfl scLw.nd (pi_list (pv 1)) (blkOk_by (N := nLw) (sc := defScope sLw) (by decide +kernel)) (fun _ _ _ _ _ => pg_tup rfl (pgs_cons (pg_name (i := 7) scLw.nd rfl (.inl rfl)) (pgs_cons (pg_name (i := 8) scLw.nd rfl (.inl rfl)) pgs_nil))) (fun _ _ _ _ _ => pts_nil) (fun _ _ _ _ _ => (pv 7)))))
        (pss_cons (ps_setLc (i := 9) (own := [("_law_sign", 7), ("_law_mark", 8)]) (g := gTup K 2 (gCons (gName 7) (gCons (gName 8) gNil))) (tt := tYes) rfl scLw.nd rfl rfl (sw_true rfl rfl rfl (by decide +kernel)) (pi_list (pv 1)) (blkOk_by (N := nLw) (sc := defScope sLw) (by decide +kernel)) (fun _ _ _ _ _ => pg_tup rfl (pgs_cons (pg_name (i := 7) scLw.nd rfl (.inl rfl)) (pgs_cons (pg_name (i := 8) scLw.nd rfl (.inl rfl)) pgs_nil))) (fun _ _ _ _ _ => pts_nil) (fun _ _ _ _ _ => (pe_tup (pa_cons (pv 7) (pa_cons pe_str pa_nil)))))
        (pss_one (ps_ret (pe_and (pe_call GHo hr rfl gHo kHo bHo .nil pass0 (pa_cons (pv 1) (pa_cons (pe_op op_fdivW (pe_callB call_len_seq (by rfl) B.len PySem.boot_len (pa_cons (pv 1) pa_nil)) pe_int) pa_nil))) (pe_one (pe_cmpR op_eq (pe_callKw GLt (hr.mono (by decide)) rfl gLt kLt cLt pass0 (pk_cons (pe_call GPo (hr.mono (by decide)) rfl gPo kPo bPo .nil pass0 (pa_cons (pv 9) pa_nil)) pk_nil)) (pv 6) (nomark _))))))))))), ?_⟩
    obtain ⟨a, ns, rfl, hq, hl, k⟩ := h
    refine ⟨(by decide : 0 ≤ sizeLine), fun E0' nE0 => ?_⟩
    have s0 := same_upd (o := .lst []) nE0
    have hq0 := s0.seq hq
    have b40 : ∀ e m : Int, m = (if e < 40 then e else 40) → 0 ≤ (if m > 1 then m else 1) ∧ (if m > 1 then m else 1) ≤ 40 := fun e m h => by
      subst h
      split <;> split <;> omega
    obtain ⟨b0, b1⟩ := b40 ((ns.length : Nat) : Int) _ rfl
    obtain ⟨n, hn⟩ := Int.eq_ofNat_of_zero_le b0
    refine ⟨_, rfl, a, _, rfl, .inl hq0, _, _, rfl, _, _, rfl, _, rfl, ?_⟩
    rw [List.length_map, hn]
    rw [hn] at b1
    refine ⟨by omega, by omega, for_range (lo := 0) (n := n) (fun i σ H' => ∃ (x2 x3 x4 x5 x6 x7 x8 x9 : Option V) (ev : Addr) (es : List V) (ps : List Pr), σ = [some (.ref a), some (.ref ev), x2, x3, x4, x5, x6, x7, x8, x9] ∧ SqL K H' a (ns.map V.int) ∧ H' ev = some (.lst es) ∧ DpAll K H' es (ps.map prD) ∧ ps.length ≤ 7 * i ∧ ∀ p ∈ ps, okPr p) ⟨_, _, _, _, _, _, _, _, E0', [], [], rfl, hq0, upd_same, .nil, by simp, by simp⟩ (fun i σ H1 hi e => ?_) (fun σ H1 e => ?_)⟩
    · obtain ⟨x2, x3, x4, x5, x6, x7, x8, x9, ev, es, ps, rfl, hq1, hev, dps, lps, okp⟩ := e
      have les := dpLen dps
      rw [List.length_map] at les
      refine ⟨_, rfl, _, rfl, a, ns, i, by rw [Int.zero_add]; rfl, hq1, hl, fun H2 p s2 np hp => ?_⟩
      refine ⟨_, rfl, p, 8, 0, rfl, by decide, by decide, by decide, hp, fun H3 c hc hp3 off3 => ?_⟩
      have s13 : Same H1 (hide H3 p) := (hide_of s2 np).trans (offs off3)
      refine ⟨_, rfl, p, _, rfl, by decide, hp3, fun H4 R qs b4 lq okq => ?_⟩
      obtain ⟨nR, neR, s34, ys, hR, dq⟩ := b4
      have s14 : Same H1 H4 := (s13.trans s34).trans (hide_same.trans hide_same)
      have dq4 := dpAll_same (hide_same.trans hide_same) dq
      have lys := dpLen dq4
      rw [List.length_map] at lys
      refine ⟨_, rfl, _, rfl, .ref R, qs, c, rfl, .lst (SqL.of hR) dq4, by omega, okq, fun H5 s5 => ⟨_, rfl, if_no rfl ?_⟩⟩
      have s15 := s14.trans s5
      refine ⟨_, rfl, _, rfl, ev, R, es, ys, rfl, rfl, s15 _ _ hev, s5 _ _ hR, by rw [sizeLine_eq]; omega, fun q nq => ?_⟩
      have s6 := same_upd (o := .lst (es ++ ys)) nq
      refine ⟨_, _, _, _, _, _, _, _, q, es ++ ys, ps ++ qs, rfl, (s15.trans s6).seq hq1, upd_same, ?_, by rw [List.length_append]; omega, fun x m => ?_⟩
      · rw [List.map_append]
        exact dpApp (dpAll_same (s15.trans s6) dps) (dpAll_same (s5.trans s6) dq4)
      · rcases List.mem_append.mp m with m | m
        · exact okp x m
        · exact okq x m
    · obtain ⟨x2, x3, x4, x5, x6, x7, x8, x9, ev, es, ps, rfl, hq1, hev, dps, lps, okp⟩ := e
      refine ⟨_, rfl, _, rfl, ev, es, rfl, SqL.of hev, fun e2 ne2 => ?_⟩
      have s2 := same_upd (o := .lst (cutV es none (some 200))) ne2
      have ec : cutV es none (some (200 : Int)) = es.take 200 := cut_to es 200
      have dE : DpAll K (L2.upd H1 e2 (.lst (cutV es none (some 200)))) (cutV es none (some 200)) ((ps.take 200).map prD) := by
        have z := dpAll_same s2 (dpTake 200 dps)
        rw [← ec, ← List.map_take] at z
        exact z
      have hE : (L2.upd H1 e2 (.lst (cutV es none (some 200)))) e2 = some (.lst (cutV es none (some 200))) := upd_same
      have lE : (ps.take 200).length ≤ 200 := by rw [List.length_take]; omega
      have okE : ∀ p ∈ ps.take 200, okPr p := fun p m => okp p (List.mem_of_mem_take m)
      generalize L2.upd H1 e2 (.lst (cutV es none (some 200))) = H2 at dE hE
      generalize cutV es none (some 200) = es2 at dE hE
      generalize ps.take 200 = qs at dE lE okE
      have l2 := dpLen dE
      rw [List.length_map] at l2
      refine ⟨⟨_, rfl⟩, _, rfl, e2, rfl, ⟨_, SqL.of hE⟩, fun D hD => lc_it (walk_list (xs := es2)) (fun i H' => Same H2 H' ∧ H' D = some (.lst (((qs.take i).map fun p => tx p.1).map V.str))) ⟨same_upd hD, upd_same⟩ (fun i H' _ e => e.1.seq (SqL.of hE)) (fun i x H' H3 hi e y => ?_) (fun H3 e => ?_)⟩
      · obtain ⟨rfl, hx⟩ := y
        obtain ⟨s3, hDt⟩ := e
        obtain ⟨d, hdi, dp⟩ := dpAt' dE hx
        rw [List.getElem?_map] at hdi
        obtain ⟨p, hp, rfl⟩ : ∃ p, qs[i]? = some p ∧ prD p = d := by
          cases z : qs[i]? with
          | none => rw [z] at hdi; cases hdi
          | some p => rw [z] at hdi; exact ⟨p, rfl, Option.some.inj hdi⟩
        obtain ⟨t, rfl, ht⟩ := pr_two (dp_same s3 dp)
        refine ⟨t, _, rfl, ht, rfl, _, _, rfl, _, _, rfl, rfl, rfl, _, rfl, _, hDt, ?_, same_upd2 s3 hD, ?_⟩
        · rw [List.length_map, List.length_map, List.length_take, sizeLine_eq]; omega
        · rw [upd_same, take_snoc hp, List.map_append, List.map_append]
          rfl
      · obtain ⟨s3, hDt⟩ := e
        rw [l2, List.take_length] at hDt
        refine ⟨"", D, qs.map fun p => tx p.1, rfl, rfl, .inl (SqL.of hDt), ?_, ?_⟩
        · have := sum_tx qs
          rw [List.length_map]
          show _ + _ * 0 ≤ _
          omega
        rw [join_tx]
        have hE3 := s3 _ _ hE
        refine ⟨_, rfl, e2, rfl, ⟨_, SqL.of hE3⟩, fun D2 hD2 => lc_it (walk_list (xs := es2)) (fun i H' => Bld K H3 H' D2 (((qs.take i).map firmP).map prD)) (Bld.new hD2) (fun i H' _ e => e.base.seq (SqL.of hE3)) (fun i x H' H4 hi e y => ?_) (fun H4 e => ?_)⟩
        · obtain ⟨rfl, hx⟩ := y
          obtain ⟨d, hdi, dp⟩ := dpAt' dE hx
          rw [List.getElem?_map] at hdi
          obtain ⟨p, hp, rfl⟩ : ∃ p, qs[i]? = some p ∧ prD p = d := by
            cases z : qs[i]? with
            | none => rw [z] at hdi; cases hdi
            | some p => rw [z] at hdi; exact ⟨p, rfl, Option.some.inj hdi⟩
          obtain ⟨t, rfl, ht⟩ := pr_two (dp_same (s3.trans e.base) dp)
          refine ⟨t, _, rfl, ht, rfl, _, _, rfl, _, _, rfl, rfl, rfl, _, rfl, (by decide : 2 ≤ sizeLine), fun T nT => ?_⟩
          obtain ⟨ys, hy, ly, put⟩ := (e.same (same_upd (o := .tup [.str (tx p.1), .str "firm"]) nT)).put
          refine ⟨ys, hy, ?_, ?_⟩
          · rw [ly, List.length_map, List.length_map, List.length_take, sizeLine_eq]; omega
          · rw [take_snoc hp, List.map_append, List.map_append]
            exact put _ _ (e.two nT _ _)
        · rw [l2, List.take_length] at e
          have s4 := e.base
          have dF := e.dp
          have s24 := s3.trans s4
          refine ⟨_, rfl, _, rfl, e2, es2, rfl, .inl (s4.seq (SqL.of hE3)), _, _, rfl, rfl, wide_div (j := 2) (b := 200) (by decide) (by decide) (by decide) (by decide), .ref e2, qs, qs.length / 2, ?_, .lst (s4.seq (SqL.of hE3)) (dpAll_same s24 dE), by omega, okE, fun H5 s5 => ⟨_, rfl, if_yes rfl ?_⟩⟩
          · rw [l2, show ((qs.length / 2 : Nat) : Int) = ((qs.length : Nat) : Int) / 2 by omega]
            rfl
          refine ⟨_, rfl, .ref D2, firmOf qs, rfl, dp_same s5 dF, ?_, fun H6 R zs rs nw => ?_⟩
          · unfold firmOf
            rw [List.length_map]
            omega
          have dl : Dp K H6 (.ref R) (.list (((lineOf qs).map Pt.one).map Pt.d)) := by
            rw [← pats_line]
            exact .lst (SqL.of nw.at_) nw.pts.dp
          refine ⟨.ref R, lineOf qs, rfl, dl, ?_, line_ok okE, fun H7 s7 => ⟨_, rfl, rfl, ?_⟩⟩
          · unfold lineOf
            rw [List.length_map]
            have := row_len qs
            omega
          · rw [decide_eq_true rfl]
            exact k _
end
end Qb
end PySem
namespace PySem
namespace Qb
open PySem.W PySem.Calls PyProof.Rows L2
/-- the law is called over the script: what the body needs is laid out -/
theorem law_at {P : Program} {w : World} {K : Frag} {mg mb : Str → Option Value} {fa a : Addr} {s : Shared} {vs : List Value} {ns : List Int}
    (KX : K.In s.heap) (hns : s.heap.Ns mainGlobals mg) (hb : s.heap.Ns builtinsNs mb) (hbb : ∀ x : Str, x ≠ "__name__" → mb x = bootBuiltins x) (lim : s.heap.NoLimit) (hg : s.gens = #[])
    (ha : s.heap.get? a = some { cls := .type "list", data := .seq vs.toArray }) (hi : IntsAre vs ns) (hl : ns.length ≤ sizeLine)
    (run : ∀ (base : Heap) (H : Hp), K.In base → base.Ns mainGlobals mg → Env0 P w K mg base callerA [] s H → SqL K H a (ns.map V.int) →
      codeAny (model P w) callerA (.call (.ref fa) ⟨[.ref a], []⟩) (CR CX0 [] P w H s (fun v _ => v = .bl true) E0) s) :
    codeAny (model P w) callerA (.call (.ref fa) ⟨[.ref a], []⟩) (fun r s' => r = .ok (.ret (.bool true)) ∧ OldK s.heap s'.heap ∧ s'.os = s.os ∧ AllBare s'.gens) s := by
  have rel := vals_ints hi
  have many := hi.length
  -- the script is tracked, as a thing that is known, where it is none of the module's own
  obtain ⟨H, hH⟩ : ∃ H : Hp, ∀ b, H b = if b = a ∧ K.lookup a = none then some (.frz { cls := .type "list", data := .seq vs.toArray } (.lst (ns.map V.int))) else none := ⟨_, fun _ => rfl⟩
  have only : ∀ b u, H b = some u → b = a ∧ K.lookup a = none ∧ u = .frz { cls := .type "list", data := .seq vs.toArray } (.lst (ns.map V.int)) := fun b u z => by
    rw [hH] at z
    by_cases c : b = a ∧ K.lookup a = none
    · rw [if_pos c] at z
      exact ⟨c.1, c.2, (Option.some.inj z).symm⟩
    · rw [if_neg c] at z
      cases z
  have sq : SqL K H a (ns.map V.int) := by
    cases hk : K.lookup a with
    | none => exact .inl (.inr ⟨_, by rw [hH]; exact if_pos ⟨rfl, hk⟩⟩)
    | some o =>
      have e := KX a o hk
      rw [ha] at e
      cases e
      exact .inr ⟨_, vs.toArray, _, hk, rfl, rfl, rfl, by rw [List.size_toArray, many]; exact hl, by simpa using rel⟩
  have ok : HOk P w H s.heap := fun b u z => by
    obtain ⟨rfl, _, rfl⟩ := only b u z
    exact ⟨ha, by rw [List.length_map]; exact hl, vs, _, rel, ha⟩
  have kept : ∀ b o, s.heap.get? b = some o → H b = none → (hidT s.heap H).get? b = some o := fun b o z n => hidT_get z n
  have baseK : K.In (hidT s.heap H) := fun b o z => kept b o (KX b o z) (by
    cases q : H b with
    | none => rfl
    | some u =>
      obtain ⟨rfl, n, _⟩ := only b u q
      rw [n] at z
      cases z)
  have baseN : ∀ (b : Addr) (m : Str → Option Value), s.heap.Ns b m → (hidT s.heap H).Ns b m := fun b m ⟨o, es, ep, z, d, r⟩ => ⟨o, es, ep, kept b o z (by
    cases q : H b with
    | none => rfl
    | some u =>
      obtain ⟨rfl, _, _⟩ := only b u q
      rw [ha] at z
      cases z
      cases d), d, r⟩
  have env : Env0 P w K mg (hidT s.heap H) callerA [] s H := {
    frames := rfl
    mod := ⟨baseK, baseN _ _ hns, ⟨mb, baseN _ _ hb, hbb⟩, let ⟨m, z1, z2⟩ := lim; ⟨m, baseN _ _ z1, z2⟩⟩
    bs := fun b o z => of_hidT z
    bsz := Nat.le_of_eq (hidT_size _ _)
    funs := trivial
    frf := fun b z => nomatch z
    hok := ok
    bare := .of_eq hg }
  refine codeAny_mono (run _ H baseK (baseN _ _ hns) env sq) fun r s' z => ?_
  cases r with
  | error e => exact z.elim
  | ok fl =>
    cases fl with
    | ret u =>
      obtain ⟨v, H', h1, h2, h3, h4, h5, h6⟩ := z
      obtain rfl : v = .bl true := h6
      obtain rfl : u = Value.bool true := h5
      refine ⟨rfl, OldK.of_keep fun b o y => ?_, h1, h2⟩
      cases q : H b with
      | none => exact h3.keep b o y q (fun z => nomatch z) (fun z => nomatch z)
      | some t =>
        obtain ⟨rfl, _, rfl⟩ := only b t q
        have q2 := h3.frzs _ _ _ q
        obtain ⟨g1, _⟩ := h4 _ _ q2
        rw [ha] at y
        cases y
        exact g1
    | next => exact z.elim
    | brk => exact z.elim
    | cont => exact z.elim
theorem glob_mk {K : Frag} {mg : Str → Option Value} {h : Heap} {x c d : Str} {t : Tok} (X : K.In h) (G : h.Ns mainGlobals mg) (a : nsIn K mainGlobals x = some (some (.str c t))) (e : c = d) : ∃ t, mg x = some (.str d t) := ⟨t, e ▸ mg_of X G a⟩
theorem tupK_mk {K : Frag} {p : Addr} {dd : Option Addr} {its : Array Value} {n : Nat} {sl : Array (Option Value)} {ws : List Str}
    (l : K.lookup p = some ⟨.type "tuple", dd, .seq its n, sl⟩) (z : its.size ≤ 1000) (v : Vals (ws.map V.str) its.toList) : ∀ H, SqT K H p (ws.map V.str) :=
  fun H => .inr ⟨_, its, n, l, rfl, rfl, Nat.le_trans z (by decide), v⟩
theorem isS (c d : Nat) : (sg c == sg d) = (c == d) := by
  by_cases h : c = d
  · subst h; simp
  · rw [beq_eq_false_iff_ne.mpr h]
    refine beq_eq_false_iff_ne.mpr fun z => h ?_
    have := congrArg cs z
    exact (List.cons.inj this).1
/-- the written dict of the two signs -/
theorem special_mk {K : Frag} {w : World} {mg : Str → Option Value} {h : Heap} {d L A : Addr} {es : Array DictEntry} {n : Nat} {h1 h2 : Int} {x1 x2 : Str} {t1 t2 : Tok} {d1 d2 : Option Addr} {i1 i2 : Array Value} {n1 n2 : Nat} {s1 s2 : Array (Option Value)}
    (X : K.In h) (G : h.Ns mainGlobals mg) (a : nsIn K mainGlobals "SPECIAL" = some (some (.ref d))) (l : K.lookup d = some ⟨.type "dict", none, .dict es n, #[]⟩)
    (e : es.toList = [⟨h1, .str x1 t1, .ref L⟩, ⟨h2, .str x2 t2, .ref A⟩]) (e1 : x1 = sg 42) (e2 : x2 = sg 63) (k1 : h1 = PyData.keyHash w.params x1) (k2 : h2 = PyData.keyHash w.params x2) (low : (d == sysModules) = false)
    (lL : K.lookup L = some ⟨.type "tuple", d1, .seq i1 n1, s1⟩) (zL : i1.size ≤ 1000) (vL : Vals [V.str "lot"] i1.toList)
    (lA : K.lookup A = some ⟨.type "tuple", d2, .seq i2 n2, s2⟩) (zA : i2.size ≤ 1000) (vA : Vals [V.str "any"] i2.toList) :
    ∃ (d : Addr) (es : Array DictEntry) (n : Nat) (L A : Addr), mg "SPECIAL" = some (.ref d) ∧ KDict K w d es n ∧ (∀ c, PySem.W.nsIn K d (sg c) = some (if c = 42 then some (.ref L) else if c = 63 then some (.ref A) else none)) ∧ (∀ H, SqT K H L [.str "lot"]) ∧ ∀ H, SqT K H A [.str "any"] := by
  subst e1 e2
  refine ⟨d, es, n, L, A, mg_of X G a, ⟨l, ?_, low⟩, fun c => ?_, tupK_mk (ws := ["lot"]) lL zL vL, tupK_mk (ws := ["any"]) lA zA vA⟩
  · rw [e]
    exact ⟨⟨_, _, rfl, k1⟩, ⟨_, _, rfl, k2⟩, trivial⟩
  · unfold PySem.W.nsIn
    rw [l]
    show (match es.toList.find? (·.key.isStr (sg c)) with | some e => some (some e.val) | none => if es.toList.any (·.refKey) then none else some none) = _
    rw [e]
    have f1 : ((⟨h1, .str (sg 42) t1, .ref L⟩ : DictEntry).key.isStr (sg c)) = (42 == c) := isS 42 c
    have f2 : ((⟨h2, .str (sg 63) t2, .ref A⟩ : DictEntry).key.isStr (sg c)) = (63 == c) := isS 63 c
    have ff : List.find? (fun e : DictEntry => e.key.isStr (sg c)) [⟨h1, .str (sg 42) t1, .ref L⟩, ⟨h2, .str (sg 63) t2, .ref A⟩] = (if c = 42 then some ⟨h1, .str (sg 42) t1, .ref L⟩ else if c = 63 then some ⟨h2, .str (sg 63) t2, .ref A⟩ else none) := by
      rw [List.find?_cons, f1]
      by_cases h42 : c = 42
      · subst h42
        rfl
      · rw [if_neg h42, beq_eq_false_iff_ne.mpr (Ne.symm h42)]
        show List.find? (fun e : DictEntry => e.key.isStr (sg c)) [⟨h2, .str (sg 63) t2, .ref A⟩] = _
        rw [List.find?_cons, f2]
        by_cases h63 : c = 63
        · subst h63
          rfl
        · rw [if_neg h63, beq_eq_false_iff_ne.mpr (Ne.symm h63)]
          rfl
    rw [ff]
    by_cases h42 : c = 42
    · rw [if_pos h42, if_pos h42]
    · rw [if_neg h42, if_neg h42]
      by_cases h63 : c = 63
      · rw [if_pos h63, if_pos h63]
      · rw [if_neg h63, if_neg h63]
        rfl
/-- the law holds, by what the text's top has left -/
theorem law_holds {P : Program} {w : World} {K : Frag} {mg mb : Str → Option Value} {s : Shared} {fa a : Addr} {vs : List Value} {ns : List Int} {f0 f1 f2 f3 f4 f5 f6 f7 f8 f9 f10 f11 f12 f13 f14 f15 f16 f17 f18 f19 f20 f21 : Addr} {d0 d1 d2 d3 d4 d5 d6 d7 d8 d9 d10 d11 d12 d13 d14 d15 d16 d17 d18 d19 d20 d21 : FuncData}
    (KX : K.In s.heap) (hns : s.heap.Ns mainGlobals mg) (hb : s.heap.Ns builtinsNs mb) (hbb : ∀ x : Str, x ≠ "__name__" → mb x = bootBuiltins x) (lim : s.heap.NoLimit) (hg : s.gens = #[])
    (ha : s.heap.get? a = some { cls := .type "list", data := .seq vs.toArray }) (hi : IntsAre vs ns) (hl : ns.length ≤ 63)
    (W : Wrt K w mg) (B : Blt mg)
    (F0 : Fun K "is_sign" "is_sign" sSg f0 d0) (g0 : mg "is_sign" = some (.ref f0))
    (F1 : Fun K "set_of" "set_of" sSo f1 d1) (g1 : mg "set_of" = some (.ref f1))
    (F2 : Fun K "least_sign" "least_sign" sLs f2 d2) (g2 : mg "least_sign" = some (.ref f2))
    (F3 : Fun K "is_range" "is_range" sRg f3 d3) (g3 : mg "is_range" = some (.ref f3))
    (F4 : Fun K "is_pattern_piece" "is_pattern_piece" sPp f4 d4) (g4 : mg "is_pattern_piece" = some (.ref f4))
    (F5 : Fun K "is_pattern" "is_pattern" sPa f5 d5) (g5 : mg "is_pattern" = some (.ref f5))
    (F6 : Fun K "check_patterns" "check_patterns" sCp f6 d6) (g6 : mg "check_patterns" = some (.ref f6))
    (F7 : Fun K "is_loose" "is_loose" sLo f7 d7) (g7 : mg "is_loose" = some (.ref f7))
    (F8 : Fun K "of_end" "of_end" sOe f8 d8) (g8 : mg "of_end" = some (.ref f8))
    (F9 : Fun K "of_told" "of_told" sOt f9 d9) (g9 : mg "of_told" = some (.ref f9))
    (F10 : Fun K "sign_told" "sign_told" sSt f10 d10) (g10 : mg "sign_told" = some (.ref f10))
    (F11 : Fun K "pattern_of" "pattern_of" sPo f11 d11) (g11 : mg "pattern_of" = some (.ref f11))
    (F12 : Fun K "least_text" "least_text" sLt f12 d12) (g12 : mg "least_text" = some (.ref f12))
    (F13 : Fun K "_law_purse" "_law_purse" sPu f13 d13) (g13 : mg "_law_purse" = some (.ref f13))
    (F14 : Fun K "_law_coin" "_law_coin" sCo f14 d14) (g14 : mg "_law_coin" = some (.ref f14))
    (F15 : Fun K "_law_same" "_law_same" sSm f15 d15) (g15 : mg "_law_same" = some (.ref f15))
    (F16 : Fun K "_law_signs" "_law_signs" sAl f16 d16) (g16 : mg "_law_signs" = some (.ref f16))
    (F17 : Fun K "_law_pairs" "_law_pairs" sPr f17 d17) (g17 : mg "_law_pairs" = some (.ref f17))
    (F18 : Fun K "_law_spans" "_law_spans" sSp f18 d18) (g18 : mg "_law_spans" = some (.ref f18))
    (F19 : Fun K "_law_read" "_law_read" sRd f19 d19) (g19 : mg "_law_read" = some (.ref f19))
    (F20 : Fun K "_law_holds" "_law_holds" sHo f20 d20) (g20 : mg "_law_holds" = some (.ref f20))
    (F21 : Fun K "law" "law" sLw f21 d21) (g21 : mg "law" = some (.ref f21))
    (hfa : mg "law" = some (.ref fa)) : codeAny (model P w) callerA (.call (.ref fa) ⟨[.ref a], []⟩) (fun r s' => r = .ok (.ret (.bool true)) ∧ OldK s.heap s'.heap ∧ s'.os = s.os ∧ AllBare s'.gens) s := by
  have e := hfa.symm.trans g21
  cases e
  have b0 := F0.binds (ps := ["text"]) fun _ _ _ _ _ _ us hl => match us, hl with | [_], _ => rfl
  have b1 := F1.binds (ps := ["piece"]) fun _ _ _ _ _ _ us hl => match us, hl with | [_], _ => rfl
  have b2 := F2.binds (ps := ["signs"]) fun _ _ _ _ _ _ us hl => match us, hl with | [_], _ => rfl
  have b3 := F3.binds (ps := ["told"]) fun _ _ _ _ _ _ us hl => match us, hl with | [_], _ => rfl
  have b4 := F4.binds (ps := ["piece"]) fun _ _ _ _ _ _ us hl => match us, hl with | [_], _ => rfl
  have b5 := F5.binds (ps := ["pattern"]) fun _ _ _ _ _ _ us hl => match us, hl with | [_], _ => rfl
  have b6 := F6.binds (ps := ["patterns"]) fun _ _ _ _ _ _ us hl => match us, hl with | [_], _ => rfl
  have b7 := F7.binds (ps := ["row", "at", "sign"]) fun _ _ _ _ _ _ us hl => match us, hl with | [_, _, _], _ => rfl
  have b8 := F8.binds (ps := ["row", "at"]) fun _ _ _ _ _ _ us hl => match us, hl with | [_, _], _ => rfl
  have b9 := F9.binds (ps := ["row"]) fun _ _ _ _ _ _ us hl => match us, hl with | [_], _ => rfl
  have b10 := F10.binds (ps := ["signed"]) fun _ _ _ _ _ _ us hl => match us, hl with | [_], _ => rfl
  have b11 := F11.binds (ps := ["signs"]) fun _ _ _ _ _ _ us hl => match us, hl with | [_], _ => rfl
  have b12 := F12.binds (ps := ["pattern"]) fun _ _ _ _ _ _ us hl => match us, hl with | [_], _ => rfl
  have b13 := F13.binds (ps := ["_law_script", "_law_at"]) fun _ _ _ _ _ _ us hl => match us, hl with | [_, _], _ => rfl
  have b14 := F14.binds (ps := ["_law_purse_here", "_law_many"]) fun _ _ _ _ _ _ us hl => match us, hl with | [_, _], _ => rfl
  have b15 := F15.binds (ps := ["_law_found", "_law_due"]) fun _ _ _ _ _ _ us hl => match us, hl with | [_, _], _ => rfl
  have b16 := F16.binds (ps := []) fun _ _ _ _ _ _ us hl => match us, hl with | [], _ => rfl
  have b17 := F17.binds (ps := ["_law_purse_here"]) fun _ _ _ _ _ _ us hl => match us, hl with | [_], _ => rfl
  have b18 := F18.binds (ps := ["_law_pairs_here", "_law_shape"]) fun _ _ _ _ _ _ us hl => match us, hl with | [_, _], _ => rfl
  have b19 := F19.binds (ps := ["_law_all_pairs"]) fun _ _ _ _ _ _ us hl => match us, hl with | [_], _ => rfl
  have b20 := F20.binds (ps := ["_law_pairs_here", "_law_place"]) fun _ _ _ _ _ _ us hl => match us, hl with | [_, _], _ => rfl
  have kb11 : KBinds K d11 ["signs"] ["signs"] (fun us ws => us ++ ws) (fun vs zs => vs ++ zs) := by
    obtain ⟨oc, od, kV, doc, pm, an, cdv, ct, osl, rfl, lk, hcd⟩ := F11.ex
    refine ⟨fun s us ws _ hl => ?_, fun r rz => r.append rz⟩
    match us, ws, hl with
    | [], [u], _ => exact .of_eq rfl
    | [u], [], _ => exact .of_eq rfl
  have kb5 : KBinds K d5 ["pattern"] ["pattern"] (fun us ws => us ++ ws) (fun vs zs => vs ++ zs) := by
    obtain ⟨oc, od, kV, doc, pm, an, cdv, ct, osl, rfl, lk, hcd⟩ := F5.ex
    refine ⟨fun s us ws _ hl => ?_, fun r rz => r.append rz⟩
    match us, ws, hl with
    | [], [u], _ => exact .of_eq rfl
    | [u], [], _ => exact .of_eq rfl
  have kb12 : KBinds K d12 ["pattern"] ["pattern"] (fun us ws => us ++ ws) (fun vs zs => vs ++ zs) := by
    obtain ⟨oc, od, kV, doc, pm, an, cdv, ct, osl, rfl, lk, hcd⟩ := F12.ex
    refine ⟨fun s us ws _ hl => ?_, fun r rz => r.append rz⟩
    match us, ws, hl with
    | [], [u], _ => exact .of_eq rfl
    | [u], [], _ => exact .of_eq rfl
  have bL : ∀ (s : Shared) (u : Value), BindsTo s d21 ⟨[u], []⟩ ((["_law_script"] : List Str).zip [u]) := by
    obtain ⟨oc, od, kV, doc, pm, an, cdv, ct, osl, rfl, lk, hcd⟩ := F21.ex
    exact fun s u => .of_eq rfl
  refine law_at KX hns hb hbb lim hg ha hi (Nat.le_trans hl (by decide)) fun base H hK hN env sq => ?_
  have oSg : Has P w K mg base 1 "is_sign" ["text"] spSg := has_Sg F0 g0 B W
  have oSo : Has P w K mg base 1 "set_of" ["piece"] (spSo K) := has_So F1 g1 B W
  have oLs : Has P w K mg base 1 "least_sign" ["signs"] spLs := has_Ls F2 g2 B W
  have oRg : Has P w K mg base 2 "is_range" ["told"] (spRg K) := has_Rg F3 g3 B oSg
  have oPp : Has P w K mg base 3 "is_pattern_piece" ["piece"] (spPp K) := has_Pp F4 g4 B oSg oRg
  have oPa : HasK P w K mg base 4 "is_pattern" ["pattern"] (spPa K) := hasK_of F5 g5 b5 kb5 (has_Pa F5 g5 B oPp)
  have oCp : Has P w K mg base 5 "check_patterns" ["patterns"] (spCp K) := has_Cp F6 g6 B oPa.has
  have oLt : HasK P w K mg base 6 "least_text" ["pattern"] (spLt K) := hasK_of F12 g12 b12 kb12 (has_Lt F12 g12 B oCp oSo oLs)
  have oLo : Has P w K mg base 1 "is_loose" ["row", "at", "sign"] (spLo K) := has_Lo F7 g7 B
  have oOe : Has P w K mg base 2 "of_end" ["row", "at"] (spOe K) := has_Oe F8 g8 B oLo
  have oOt : Has P w K mg base 2 "of_told" ["row"] (spOt K) := has_Ot F9 g9 B oLo
  have oSt : Has P w K mg base 1 "sign_told" ["signed"] (spSt K) := has_St F10 g10 B W
  have oPo : HasK P w K mg base 3 "pattern_of" ["signs"] (spPo K) := hasK_of F11 g11 b11 kb11 (has_Po F11 g11 B oOe oOt oSt)
  have oSm : Has P w K mg base 6 "_law_same" ["_law_found", "_law_due"] (spSm K 5) := has_of F15 g15 b15 (ok_Sm F15 g15 b15 B 5)
  have oPu : Has P w K mg base 1 "_law_purse" ["_law_script", "_law_at"] (spPu K) := has_Pu F13 g13 B
  have oCo : Has P w K mg base 1 "_law_coin" ["_law_purse_here", "_law_many"] spCo := has_Co F14 g14 B
  have oAl : Has P w K mg base 1 "_law_signs" [] spAl := has_Al F16 g16 B
  have oPr : Has P w K mg base 2 "_law_pairs" ["_law_purse_here"] (spPr K) := has_Pr F17 g17 B oCo oAl
  have oSp : Has P w K mg base 1 "_law_spans" ["_law_pairs_here", "_law_shape"] (spSp K) := has_Sp F18 g18 B
  have oRd : Has P w K mg base 2 "_law_read" ["_law_all_pairs"] (spRd K) := has_Rd F19 g19 B oSp
  have oHo : Has P w K mg base 7 "_law_holds" ["_law_pairs_here", "_law_place"] (spHo K) := has_Ho F20 g20 B oRd oPo oPa oSm
  have hr : Room 8 callerA := ⟨rfl, by decide, by decide⟩
  exact (ok_Lw F21 B oPu oCo oPr oHo oLt oPo).run callerA [] s H ⟨[.ref a], []⟩ [.ref a] [.ref a] (fun v _ => v = V.bl true) E0 hr env (bL s (.ref a)) (.cons rfl .nil) ⟨a, ns, rfl, sq, hl, fun _ => rfl⟩
end Qb
end PySem
open PySem PySem.W PyProof.Rows
set_option maxRecDepth 100000 in
set_option maxHeartbeats 0 in
theorem PySem.Challenge.cw_quotedback_k21_patterns_of_signs_holds : PySem.Challenge.rw_quotedback_k21_patterns_of_signs.Holds := by
  w_on; o_law; k_head; (case hw => w_witness2)
  k_fill
  refine Att.attach_call (l := PySem.Challenge.rw_quotedback_k21_patterns_of_signs) (n := 63) rfl rfl ?F
  case F =>
    intro w s₀ s₁ mg mb fa o pm cd doc a vs ns G Y ho hd hcd hmg hobj hints hlen hg
    have KX := kIn_of Y
    refine' PySem.Qb.law_holds KX G.T.g G.T.b G.T.builtins G.T.nolimit hg hobj hints hlen
      ⟨PySem.Qb.glob_mk KX G.T.g ?s0 ?e0, PySem.Qb.special_mk KX G.T.g ?sa ?sl ?se ?se1 ?se2 ?sk1 ?sk2 ?slow ?sL ?szL ?svL ?sA ?szA ?svA⟩
      ⟨mg_none_of KX G.T.g ?y0, mg_none_of KX G.T.g ?y1, mg_none_of KX G.T.g ?y2, mg_none_of KX G.T.g ?y3, mg_none_of KX G.T.g ?y4, mg_none_of KX G.T.g ?y5, mg_none_of KX G.T.g ?y6, mg_none_of KX G.T.g ?y7, mg_none_of KX G.T.g ?y8, mg_none_of KX G.T.g ?y9, mg_none_of KX G.T.g ?y10, mg_none_of KX G.T.g ?y11⟩
      (L2.fun_mk ?lf0 ?cf0 ?kf0) (mg_of KX G.T.g ?af0)
      (L2.fun_mk ?lf1 ?cf1 ?kf1) (mg_of KX G.T.g ?af1)
      (L2.fun_mk ?lf2 ?cf2 ?kf2) (mg_of KX G.T.g ?af2)
      (L2.fun_mk ?lf3 ?cf3 ?kf3) (mg_of KX G.T.g ?af3)
      (L2.fun_mk ?lf4 ?cf4 ?kf4) (mg_of KX G.T.g ?af4)
      (L2.fun_mk ?lf5 ?cf5 ?kf5) (mg_of KX G.T.g ?af5)
      (L2.fun_mk ?lf6 ?cf6 ?kf6) (mg_of KX G.T.g ?af6)
      (L2.fun_mk ?lf7 ?cf7 ?kf7) (mg_of KX G.T.g ?af7)
      (L2.fun_mk ?lf8 ?cf8 ?kf8) (mg_of KX G.T.g ?af8)
      (L2.fun_mk ?lf9 ?cf9 ?kf9) (mg_of KX G.T.g ?af9)
      (L2.fun_mk ?lf10 ?cf10 ?kf10) (mg_of KX G.T.g ?af10)
      (L2.fun_mk ?lf11 ?cf11 ?kf11) (mg_of KX G.T.g ?af11)
      (L2.fun_mk ?lf12 ?cf12 ?kf12) (mg_of KX G.T.g ?af12)
      (L2.fun_mk ?lf13 ?cf13 ?kf13) (mg_of KX G.T.g ?af13)
      (L2.fun_mk ?lf14 ?cf14 ?kf14) (mg_of KX G.T.g ?af14)
      (L2.fun_mk ?lf15 ?cf15 ?kf15) (mg_of KX G.T.g ?af15)
      (L2.fun_mk ?lf16 ?cf16 ?kf16) (mg_of KX G.T.g ?af16)
      (L2.fun_mk ?lf17 ?cf17 ?kf17) (mg_of KX G.T.g ?af17)
      (L2.fun_mk ?lf18 ?cf18 ?kf18) (mg_of KX G.T.g ?af18)
      (L2.fun_mk ?lf19 ?cf19 ?kf19) (mg_of KX G.T.g ?af19)
      (L2.fun_mk ?lf20 ?cf20 ?kf20) (mg_of KX G.T.g ?af20)
      (L2.fun_mk ?lf21 ?cf21 ?kf21) (mg_of KX G.T.g ?af21) hmg
    (case s0 => k_is)
    (case y0 => k_is)
    (case y1 => k_is)
    (case y2 => k_is)
    (case y3 => k_is)
    (case y4 => k_is)
    (case y5 => k_is)
    (case y6 => k_is)
    (case y7 => k_is)
    (case y8 => k_is)
    (case y9 => k_is)
    (case y10 => k_is)
    (case y11 => k_is)
    (case sa => k_is)
    (case sl => k_is)
    (case e0 => first | rfl | decide +kernel)
    (case se => rfl)
    (case se1 => first | rfl | decide +kernel)
    (case se2 => first | rfl | decide +kernel)
    (case sk1 => rfl)
    (case sk2 => rfl)
    (case slow => decide +kernel)
    (case sL => k_is)
    (case szL => decide +kernel)
    (case svL => exact .cons ⟨_, rfl⟩ .nil)
    (case sA => k_is)
    (case szA => decide +kernel)
    (case svA => exact .cons ⟨_, rfl⟩ .nil)
    (case af0 => k_is)
    (case lf0 => k_is)
    (case cf0 => k_is)
    (case kf0 => k_is)
    (case af1 => k_is)
    (case lf1 => k_is)
    (case cf1 => k_is)
    (case kf1 => k_is)
    (case af2 => k_is)
    (case lf2 => k_is)
    (case cf2 => k_is)
    (case kf2 => k_is)
    (case af3 => k_is)
    (case lf3 => k_is)
    (case cf3 => k_is)
    (case kf3 => k_is)
    (case af4 => k_is)
    (case lf4 => k_is)
    (case cf4 => k_is)
    (case kf4 => k_is)
    (case af5 => k_is)
    (case lf5 => k_is)
    (case cf5 => k_is)
    (case kf5 => k_is)
    (case af6 => k_is)
    (case lf6 => k_is)
    (case cf6 => k_is)
    (case kf6 => k_is)
    (case af7 => k_is)
    (case lf7 => k_is)
    (case cf7 => k_is)
    (case kf7 => k_is)
    (case af8 => k_is)
    (case lf8 => k_is)
    (case cf8 => k_is)
    (case kf8 => k_is)
    (case af9 => k_is)
    (case lf9 => k_is)
    (case cf9 => k_is)
    (case kf9 => k_is)
    (case af10 => k_is)
    (case lf10 => k_is)
    (case cf10 => k_is)
    (case kf10 => k_is)
    (case af11 => k_is)
    (case lf11 => k_is)
    (case cf11 => k_is)
    (case kf11 => k_is)
    (case af12 => k_is)
    (case lf12 => k_is)
    (case cf12 => k_is)
    (case kf12 => k_is)
    (case af13 => k_is)
    (case lf13 => k_is)
    (case cf13 => k_is)
    (case kf13 => k_is)
    (case af14 => k_is)
    (case lf14 => k_is)
    (case cf14 => k_is)
    (case kf14 => k_is)
    (case af15 => k_is)
    (case lf15 => k_is)
    (case cf15 => k_is)
    (case kf15 => k_is)
    (case af16 => k_is)
    (case lf16 => k_is)
    (case cf16 => k_is)
    (case kf16 => k_is)
    (case af17 => k_is)
    (case lf17 => k_is)
    (case cf17 => k_is)
    (case kf17 => k_is)
    (case af18 => k_is)
    (case lf18 => k_is)
    (case cf18 => k_is)
    (case kf18 => k_is)
    (case af19 => k_is)
    (case lf19 => k_is)
    (case cf19 => k_is)
    (case kf19 => k_is)
    (case af20 => k_is)
    (case lf20 => k_is)
    (case cf20 => k_is)
    (case kf20 => k_is)
    (case af21 => k_is)
    (case lf21 => k_is)
    (case cf21 => k_is)
    (case kf21 => k_is)
