import PyProof.Rows.All
import Wide.All
import OpenK.AllK
import Wide.FinOn
import PyProof.EqAt
import PyProof.EqKinds
import PyProof.TupleCall
import PyProof.RulesMatchSeq
import PyProof.Rows.MatchSeqLen
import HandS.ForMost
import HandS.Walk
import HandS.Iter
import HandS.Text
import HandS.IsInst
import PyProof.RulesMatchSingle
import HandS.Wide
import HandS.ExcInit
import HandS.ExcOwn
import HandS.ExcField
import KE.KExcIs
import HandS.More
import HandS.WideBits
import HandS.StrMore
import HandS.WordsExc
import PyProof.StrLawsRepr
import PyProof.ReprRoads
import PySem.Challenge.RW_quotedback_k08_sums_read
set_option Elab.async false
set_option linter.all false
set_option maxRecDepth 100000
set_option maxHeartbeats 8000000
namespace PySem
namespace Qb
open PySem.W PySem.Calls PyProof.Rows L2
/-! # match over tuples, texts and names -/
/-- what a pattern asks: the values of its names in their order, or that it does not fit -/
abbrev PatR := V → Hp → (Option (List V) → Prop) → Prop
def PatE (X : Cx) (pins : List (Addr × Obj)) (σ : L2.St) (H : Hp) (ns : List Str) (Q : Option (List V) → Prop) (res : Option (List (Str × Value))) (s : Shared) : Prop :=
  Inv X pins σ H s ∧ match res with
    | none => Q none
    | some bs => bs.map (·.1) = ns ∧ ∃ vs, Vals vs (bs.map (·.2)) ∧ Q (some vs)
structure PPt (X : Cx) (pat : Pattern) (ns : List Str) (r : PatR) : Prop where
  run : ∀ (pins : List (Addr × Obj)) (s : Shared) (σ : L2.St) (H : Hp) (v : V) (u : Value) (Q : Option (List V) → Prop), Inv X pins σ H s → RelV v u → r v H Q →
    wpAny (model X.prog X.w) X.A (matchPattern pat X.env u) (fun res s1 => PatE X pins σ H ns Q res s1) X.xe s
def rEach : List PatR → List V → Hp → (Option (List V) → Prop) → Prop
  | r :: rs, x :: xs, H, Q => r x H fun o => match o with
    | none => Q none
    | some vs => rEach rs xs H fun o' => match o' with
      | none => Q none
      | some more => Q (some (vs ++ more))
  | _, _, _, Q => Q (some [])
structure PPs (X : Cx) (pats : List Pattern) (ns : List Str) (rs : List PatR) : Prop where
  len : rs.length = pats.length
  run : ∀ (pins : List (Addr × Obj)) (s : Shared) (σ : L2.St) (H : Hp) (vs : List V) (us : List Value) (Q : Option (List V) → Prop), Inv X pins σ H s → Vals vs us → vs.length = pats.length → rEach rs vs H Q →
    wpAny (model X.prog X.w) X.A (matchEach pats X.env us) (fun res s1 => PatE X pins σ H ns Q res s1) X.xe s
theorem ext_keeps {h h2 : Heap} (ex : Heap.ExtBut h.objs.size h h2) (b : Addr) (o : Obj) (z : h.get? b = some o) : h2.get? b = some o := by
  exact ex b o (Nat.ne_of_lt (Heap.lt_size z)) z
section
variable {X : Cx} {pos pos' : Pos}
def rLit (c : Str) : PatR := fun v _ Q => ∃ y, v = .str y ∧ Q (if y = c then some [] else none)
theorem pp_lit {c : Str} {j : Nat} : PPt X (.MatchValue (.Constant (.str c) j pos) pos') [] (rLit c) := by
  refine ⟨fun pins s σ H v u Q I r h => wpAny_matchPattern_Value ?_⟩
  obtain ⟨y, rfl, q⟩ := h
  refine thn (pe_str.run pins s σ H (fun z H1 => z = .str c ∧ H1 = H) I ⟨rfl, rfl⟩) fun x s1 ⟨z, H1, I1, rz, ez, eH⟩ => ?_
  subst ez
  subst eH
  refine thn (op_eq pins s1 σ H1 (.str y) (.str c) u x (fun w H2 => w = .bl (decide (V.str y = V.str c)) ∧ H2 = H1) I1 r rz ⟨rfl, rfl, rfl⟩) fun b s2 ⟨w, H2, I2, rw2, ew, eH⟩ => ?_
  subst ew
  subst eH
  obtain rfl : b = Value.bool (decide (V.str y = V.str c)) := rw2
  show wpAny _ _ (truthy (.bool _)) _ _ _
  refine wpAny_pure ?_
  by_cases e : y = c
  · rw [if_pos e] at q
    rw [if_pos (by simpa using e)]
    exact ⟨I2, rfl, [], .nil, q⟩
  · rw [if_neg e] at q
    rw [if_neg (by simpa using e)]
    exact ⟨I2, q⟩
def rCap : PatR := fun v _ Q => Q (some [v])
theorem pp_cap {n : Str} : PPt X (.MatchAs none (some n) pos) [n] rCap :=
  ⟨fun pins s σ H v u Q I r h => wpAny_matchPattern_Capture ⟨I, rfl, [v], .cons r .nil, h⟩⟩
def rAny1 : PatR := fun _ _ Q => Q (some [])
theorem pp_any : PPt X (.MatchAs none none pos) [] rAny1 :=
  ⟨fun pins s σ H v u Q I r h => wpAny_matchPattern_Capture ⟨I, rfl, [], .nil, h⟩⟩
theorem pps_nil : PPs X [] [] [] :=
  ⟨rfl, fun pins s σ H vs us Q I r hl h => by
    cases r with
    | nil => exact wpAny_matchEach_nil ⟨I, rfl, [], .nil, h⟩
    | cons _ _ => cases hl⟩
theorem pps_cons {p : Pattern} {ps : List Pattern} {ns ms : List Str} {r : PatR} {rs : List PatR} (h1 : PPt X p ns r) (h2 : PPs X ps ms rs) (hp : p.isStar = false := by rfl) : PPs X (p :: ps) (ns ++ ms) (r :: rs) := by
  refine ⟨congrArg Nat.succ h2.len, fun pins s σ H vs us Q I rv hl h => ?_⟩
  cases rv with
  | nil => cases hl
  | @cons x u xs us rx rt =>
    refine wpAny_matchEach_cons (thn (h1.run pins s σ H x u _ I rx h) fun res s1 ⟨I1, z⟩ => ?_) hp
    cases res with
    | none => exact ⟨I1, z⟩
    | some bs =>
      obtain ⟨e1, vs1, r1, q1⟩ := z
      refine thn (h2.run pins s1 σ H xs us _ I1 rt (Nat.succ.inj hl) q1) fun res2 s2 ⟨I2, z2⟩ => ?_
      cases res2 with
      | none => exact ⟨I2, z2⟩
      | some more =>
        obtain ⟨e2, vs2, r2, q2⟩ := z2
        exact ⟨I2, by rw [List.map_append, e1, e2], vs1 ++ vs2, by rw [List.map_append]; exact r1.append r2, q2⟩
def rSeq (K : Frag) (n : Nat) (rs : List PatR) : PatR := fun v H Q => ∃ a xs, v = .ref a ∧ SqT K H a xs ∧ (xs.length ≠ n → Q none) ∧ (xs.length = n → rEach rs xs H Q)
theorem pp_seq {ps : List Pattern} {ns : List Str} {rs : List PatR} {n : Nat} (hc : X.calm = true) (h : PPs X ps ns rs) (hn : ps.length = n := by rfl) (hstar : ps.findIdx? (·.isStar) = none := by rfl)
    (hwild : (ps.all fun p => p.isWildcard || (p.isStar && p.names.isEmpty)) = false := by rfl) : PPt X (.MatchSequence ps pos) ns (rSeq X.K n rs) := by
  refine ⟨fun pins s σ H v u Q I r h' => ?_⟩
  obtain ⟨a, xs, rfl, sq, qn, qy⟩ := h'
  obtain rfl : u = Value.ref a := r
  obtain ⟨its, rv, ht, hz⟩ := I.tuple sq
  have hfit : ((its.toArray.size : Nat) : Int) < 2 ^ 63 := by
    have e := rv.length
    rw [List.size_toArray, ← e]
    rw [sizeLine_eq] at hz
    omega
  have e := rv.length
  by_cases c : xs.length = n
  · refine matchSeq_tuple_hit ht hfit (by rw [List.size_toArray, ← e, c, hn]) ?_ hstar hwild
    have sz : ps.length = its.toArray.size := by rw [List.size_toArray, ← e, c, hn]
    rw [sz]
    refine unpackItems_tuple (I.ok.hd hc) ht fun h2 ex => ?_
    have J : Inv X pins σ H { s with heap := h2, toks := s.toks + 1 + 1 } := I.kept (t' := s.toks + 1 + 1) fun b o z => ext_keeps ex b o z
    refine h.run pins _ σ H xs _ Q J (by simpa using rv) (by rw [c, hn]) (qy c)
  · exact matchSeq_tuple_miss ht hfit (by rw [List.size_toArray, ← e, hn]; exact c) ⟨I.tok _, qn c⟩ hstar hwild
/-- one of some patterns without names -/
def rOr : List PatR → PatR
  | [] => fun _ _ Q => Q none
  | r :: rs => fun v H Q => r v H fun o => match o with
    | some vs => Q (some vs)
    | none => rOr rs v H Q
structure PFirst (X : Cx) (pats : List Pattern) (rs : List PatR) : Prop where
  run : ∀ (pins : List (Addr × Obj)) (s : Shared) (σ : L2.St) (H : Hp) (v : V) (u : Value) (Q : Option (List V) → Prop), Inv X pins σ H s → RelV v u → rOr rs v H Q →
    wpAny (model X.prog X.w) X.A (matchFirst pats X.env u) (fun res s1 => PatE X pins σ H [] Q res s1) X.xe s
theorem pf_nil : PFirst X [] [] := ⟨fun pins s σ H v u Q I r h => wpAny_matchFirst_nil ⟨I, h⟩⟩
theorem pf_cons {p : Pattern} {ps : List Pattern} {r : PatR} {rs : List PatR} (h1 : PPt X p [] r) (h2 : PFirst X ps rs) : PFirst X (p :: ps) (r :: rs) := by
  refine ⟨fun pins s σ H v u Q I rv h => wpAny_matchFirst_cons (thn (h1.run pins s σ H v u _ I rv h) fun res s1 ⟨I1, z⟩ => ?_)⟩
  cases res with
  | none => exact h2.run pins s1 σ H v u Q I1 rv z
  | some bs => exact ⟨I1, z⟩
theorem pp_or {ps : List Pattern} {rs : List PatR} (h : PFirst X ps rs) (hno : namesOfAll (ps.take 1) = [] := by rfl) : PPt X (.MatchOr ps pos) [] (rOr rs) := by
  refine ⟨fun pins s σ H v u Q I r h' => wpAny_matchPattern_Or (thn (h.run pins s σ H v u Q I r h') fun res s1 ⟨I1, z⟩ => ?_)⟩
  cases res with
  | none => exact ⟨I1, z⟩
  | some bs =>
    obtain ⟨e, vs, rv, q⟩ := z
    have e0 : bs = [] := List.map_eq_nil_iff.mp e
    subst e0
    cases rv
    rw [hno]
    exact ⟨I1, rfl, [], .nil, q⟩
/-- names stored in their slots, from the left -/
def setAll : L2.St → List Nat → List V → L2.St
  | σ, i :: is, v :: vs => setAll (σ.set i (some v)) is vs
  | σ, _, _ => σ
def SlotsOk (X : Cx) (ns : List Str) (is : List Nat) : Prop := Paired (fun n i => X.N[i]? = some n ∧ L2.Loc X.env.scope n ∧ (X.fn n = true ∨ X.env.scope.names.lookup n = some .local)) ns is
theorem store_all (hN : X.N.Nodup) {pins : List (Addr × Obj)} {H : Hp} {Q : Unit → Shared → Prop} : ∀ {ns : List Str} {is : List Nat} {bs : List (Str × Value)} {vs : List V} {σ : L2.St} {s : Shared}, SlotsOk X ns is → bs.map (·.1) = ns → Vals vs (bs.map (·.2)) → Inv X pins σ H s →
    (∀ s', Inv X pins (setAll σ is vs) H s' → Q () s') → wpAny (model X.prog X.w) X.A (assignInOrder (bs.map fun (n, _) => bindName X.env n) (bs.map (·.2))) Q X.xe s
  | _, _, [], _, _, _, ok, e, rv, I, q => by
    subst e
    cases rv
    cases ok
    exact wpAny_assignInOrder_none (q _ I)
  | _, _, (n, u) :: bs, _, _, _, ok, e, rv, I, q => by
    subst e
    cases rv with
    | cons r1 r2 =>
      cases ok with
      | cons o1 o2 =>
        refine wpAny_assignInOrder_more (wpAny_bindName (store_ok I hN o1.1 o1.2.1 r1 (fun s' I' => store_all hN o2 rfl r2 I' q) o1.2.2))
def tCases : List (List Nat × PatR × TS) → V → TS
  | [], _ => fun D σ H => D.nx σ H
  | (is, r, t) :: rest, v => fun D σ H => r v H fun o => match o with
    | none => tCases rest v D σ H
    | some vs => t D (setAll σ is vs) H
structure PCs (X : Cx) (cases : List MatchCase) (cs : List (List Nat × PatR × TS)) : Prop where
  run : ∀ (pins : List (Addr × Obj)) (s : Shared) (σ : L2.St) (H : Hp) (D : Ends) (v : V) (u : Value) (first : Bool), Inv X pins σ H s → RelV v u → tCases cs v D σ H →
    wpAny (model X.prog X.w) X.A (matchCases cases X.env u first) (SP X pins D) X.xe s
theorem pcs_nil : PCs X [] [] := ⟨fun pins s σ H D v u first I r h => wpAny_matchCases_nil ⟨σ, H, I, h⟩⟩
theorem pcs_cons {p : Pattern} {body : List Stmt} {cases : List MatchCase} {ns : List Str} {is : List Nat} {r : PatR} {t : TS} {cs : List (List Nat × PatR × TS)} (hN : X.N.Nodup) (h1 : PPt X p ns r) (hs : SlotsOk X ns is) (hb : PSs X body t) (h2 : PCs X cases cs) :
    PCs X (⟨p, none, body⟩ :: cases) ((is, r, t) :: cs) := by
  refine ⟨fun pins s σ H D v u first I rv h => wpAny_matchCases_cons (thn (h1.run pins s σ H v u _ I rv h) fun res s1 ⟨I1, z⟩ => ?_)⟩
  cases res with
  | none => exact h2.run pins s1 σ H D v u false I1 rv z
  | some bs =>
    obtain ⟨e, vs, r2, q⟩ := z
    exact store_all hN hs e r2 I1 fun s2 I2 => hb.run pins s2 _ H D I2 q
def tMatch (te : TE) (cs : List (List Nat × PatR × TS)) : TS := fun D σ H => te σ H fun v H1 => tCases cs v D σ H1
theorem ps_match {e : Expr} {cases : List MatchCase} {te : TE} {cs : List (List Nat × PatR × TS)} (he : PE X e te) (hc : PCs X cases cs) : PS X (.Match e cases pos) (tMatch te cs) :=
  ⟨fun pins s σ H D I h => wpAny_Match (thn (he.run pins s σ H _ I h) fun u s1 ⟨v, H1, I1, rv, q⟩ => hc.run pins s1 σ H1 D v u true I1 rv q)⟩
end
/-! # heaps -/
theorem same_upd {H : Hp} {a : Addr} {o : HO} (h : H a = none) : Same H (upd H a o) := fun b u e => by
  rw [upd_ne (ne_of_none e h)]
  exact e
theorem same_upd2 {H H1 : Hp} {a : Addr} {o : HO} (s : Same H H1) (h : H a = none) : Same H (upd H1 a o) := fun b u e => by
  rw [upd_ne (ne_of_none e h)]
  exact s b u e
theorem take_snoc {α : Type} {l : List α} {i : Nat} {x : α} (h : l[i]? = some x) : l.take (i + 1) = l.take i ++ [x] := by
  rw [List.take_succ, h]
  rfl
theorem if_no {c : Bool} {A B : Prop} (h : c = false) (b : B) : if c = true then A else B := by
  rw [h, if_neg Bool.false_ne_true]
  exact b
theorem if_yes {c : Bool} {A B : Prop} (h : c = true) (a : A) : if c = true then A else B := by
  rw [if_pos h]
  exact a
theorem if_by {c : Bool} {A B : Prop} (a : c = true → A) (b : c = false → B) : if c = true then A else B := by
  cases c with
  | true => exact a rfl
  | false => exact b rfl
abbrev cs (x : Str) : List Nat := x.cps.toList
theorem glob_str {X : Cx} {x : Str} {c : Str} {pos : Pos} (hg : Gl X x) (hm : ∃ t, X.mg x = some (.str c t)) (hd : (x == ("__debug__" : Str)) = false := by decide) : PE X (.Name x pos) (tC (.str c)) := by
  obtain ⟨t, e⟩ := hm
  exact pe_glob hg e ⟨t, rfl⟩ hd
theorem pe_never {X : Cx} {e : Expr} : PE X e (fun _ _ _ => False) := ⟨fun _ _ _ _ _ _ h => h.elim⟩
theorem pt_never {X : Cx} {e : Expr} : PT X e (fun _ _ _ => False) := ⟨fun _ _ _ _ _ _ h => h.elim⟩
theorem sqT_same {K : Frag} {H H' : Hp} {a : Addr} {xs : List V} (s : Same H H') (h : SqT K H a xs) : SqT K H' a xs := by
  rcases h with (h | ⟨o, h⟩) | h
  · exact .inl (.inl (s _ _ h))
  · exact .inl (.inr ⟨o, s _ _ h⟩)
  · exact .inr h
theorem dp_same {K : Frag} {H H' : Hp} (s : Same H H') : ∀ {d : PyData} {v : V}, Dp K H v d → Dp K H' v d := by
  intro d v h
  exact Dp.rec (motive_1 := fun v d _ => Dp K H' v d) (motive_2 := fun vs ds _ => DpAll K H' vs ds) .non .bl .int .str (fun h1 _ ih => .lst (s.seq h1) ih) (fun h1 _ ih => .tup (sqT_same s h1) ih) .nil (fun _ _ a b => .cons a b) h
theorem dpAll_same {K : Frag} {H H' : Hp} (s : Same H H') : ∀ {ds : List PyData} {vs : List V}, DpAll K H vs ds → DpAll K H' vs ds
  | [], _, .nil => .nil
  | _ :: _, _, .cons h t => .cons (dp_same s h) (dpAll_same s t)
theorem dpLen {K : Frag} {H : Hp} : ∀ {vs : List V} {ds : List PyData}, DpAll K H vs ds → vs.length = ds.length
  | _, _, .nil => rfl
  | _, _, .cons _ t => congrArg Nat.succ (dpLen t)
theorem dpAt {K : Frag} {H : Hp} : ∀ {vs : List V} {ds : List PyData} {i : Nat} {d : PyData}, DpAll K H vs ds → ds[i]? = some d → ∃ v, vs[i]? = some v ∧ Dp K H v d
  | _, _, _, _, .nil, e => by cases e
  | _, _, 0, _, .cons h _, e => by
    obtain rfl := Option.some.inj e
    exact ⟨_, rfl, h⟩
  | _, _, i + 1, _, .cons _ t, e => dpAt (i := i) t e
theorem dpAt' {K : Frag} {H : Hp} : ∀ {vs : List V} {ds : List PyData} {i : Nat} {v : V}, DpAll K H vs ds → vs[i]? = some v → ∃ d, ds[i]? = some d ∧ Dp K H v d
  | _, _, _, _, .nil, e => by cases e
  | _, _, 0, _, .cons h _, e => by
    obtain rfl := Option.some.inj e
    exact ⟨_, rfl, h⟩
  | _, _, i + 1, _, .cons _ t, e => dpAt' (i := i) t e
theorem dpApp {K : Frag} {H : Hp} : ∀ {vs ws : List V} {ds es : List PyData}, DpAll K H vs ds → DpAll K H ws es → DpAll K H (vs ++ ws) (ds ++ es)
  | _, _, _, _, .nil, h => h
  | _, _, _, _, .cons h t, h' => .cons h (dpApp t h')
theorem dpDrop {K : Frag} {H : Hp} : ∀ (n : Nat) {vs : List V} {ds : List PyData}, DpAll K H vs ds → DpAll K H (vs.drop n) (ds.drop n)
  | 0, _, _, h => h
  | n + 1, _, _, .nil => .nil
  | n + 1, _, _, .cons _ t => dpDrop n t
theorem dpTake {K : Frag} {H : Hp} : ∀ (n : Nat) {vs : List V} {ds : List PyData}, DpAll K H vs ds → DpAll K H (vs.take n) (ds.take n)
  | 0, _, _, _ => .nil
  | n + 1, _, _, .nil => .nil
  | n + 1, _, _, .cons h t => .cons h (dpTake n t)
theorem dp_tup {K : Frag} {H : Hp} {v : V} {ds : List PyData} (h : Dp K H v (.tuple ds)) : ∃ a xs, v = .ref a ∧ SqT K H a xs ∧ DpAll K H xs ds := by
  cases h with
  | tup h1 h2 => exact ⟨_, _, rfl, h1, h2⟩
theorem dp_lst {K : Frag} {H : Hp} {v : V} {ds : List PyData} (h : Dp K H v (.list ds)) : ∃ a xs, v = .ref a ∧ SqL K H a xs ∧ DpAll K H xs ds := by
  cases h with
  | lst h1 h2 => exact ⟨_, _, rfl, h1, h2⟩
theorem dp_str {K : Frag} {H : Hp} {v : V} {x : Str} (h : Dp K H v (.str x)) : v = .str x := by
  cases h
  rfl
theorem dp_two {K : Frag} {H : Hp} {v : V} {x y : Str} (h : Dp K H v (.tuple [.str x, .str y])) : ∃ a, v = .ref a ∧ SqT K H a [.str x, .str y] := by
  obtain ⟨a, xs, rfl, q, all⟩ := dp_tup h
  cases all with
  | cons h1 t =>
    cases t with
    | cons h2 t =>
      cases t
      obtain rfl := dp_str h1
      obtain rfl := dp_str h2
      exact ⟨a, rfl, q⟩
/-! # a def's place and promise -/
def Has (P : Program) (w : World) (K : Frag) (mg : Str → Option Value) (base : Heap) (k : Nat) (x : Str) (ps : List Str) (sp : Sp) : Prop :=
  ∃ (f : Addr) (fd : FuncData), mg x = some (.ref f) ∧ PySem.W.keepIn K (.ref f) = true ∧ Binds K fd ps [] ∧ FnOk P w K mg base CX0 k f fd ps sp
/-- the same, its one argument told by its name -/
def HasK (P : Program) (w : World) (K : Frag) (mg : Str → Option Value) (base : Heap) (k : Nat) (x : Str) (ps : List Str) (sp : Sp) : Prop :=
  ∃ (f : Addr) (fd : FuncData), mg x = some (.ref f) ∧ PySem.W.keepIn K (.ref f) = true ∧ Binds K fd ps [] ∧ KBinds K fd ps ps (fun us ws => us ++ ws) (fun vs zs => vs ++ zs) ∧ FnOk P w K mg base CX0 k f fd ps sp
theorem HasK.has {P : Program} {w : World} {K : Frag} {mg : Str → Option Value} {base : Heap} {k : Nat} {x : Str} {ps : List Str} {sp : Sp} (h : HasK P w K mg base k x ps sp) : Has P w K mg base k x ps sp := by
  obtain ⟨f, fd, a, b, c, _, d⟩ := h
  exact ⟨f, fd, a, b, c, d⟩
theorem has_of {P : Program} {w : World} {K : Frag} {mg : Str → Option Value} {base : Heap} {k : Nat} {x qual : Str} {st : Stmt} {f : Addr} {fd : FuncData} {ps : List Str} {sp : Sp} (F : Fun K x qual st f fd) (g : mg x = some (.ref f)) (b : Binds K fd ps []) (o : FnOk P w K mg base CX0 k f fd ps sp) : Has P w K mg base k x ps sp := ⟨f, fd, g, F.kp, b, o⟩
theorem hasK_of {P : Program} {w : World} {K : Frag} {mg : Str → Option Value} {base : Heap} {k : Nat} {x qual : Str} {st : Stmt} {f : Addr} {fd : FuncData} {ps : List Str} {sp : Sp} (F : Fun K x qual st f fd) (g : mg x = some (.ref f)) (b : Binds K fd ps []) (c : KBinds K fd ps ps (fun us ws => us ++ ws) (fun vs zs => vs ++ zs)) (o : FnOk P w K mg base CX0 k f fd ps sp) : HasK P w K mg base k x ps sp := ⟨f, fd, g, F.kp, b, c, o⟩
section
variable {X : Cx} {CX : CXT} {k : Nat} {f : Addr} {fd : FuncData} {ps ks : List Str} {sp : Sp} {x : Str} {p pos : Pos} {E : XK} {kws : List Keyword} {tk : TA} {g : List Value → List Value → List Value} {gV : List V → List V → List V}
def tCallKw (sp : Sp) (gV : List V → List V → List V) (E : XK) (tk : TA) : TE := fun σ H Q => tk σ H fun zs H2 => sp (gV [] zs) H2 Q E
theorem pe_callKw (F : FnOk X.prog X.w X.K X.mg X.base CX k f fd ps sp) (hr : Room k X.A) (hg : Gl X x) (hm : X.mg x = some (.ref f)) (hk : PySem.W.keepIn X.K (.ref f) = true) (hb : KBinds X.K fd ps ks g gV) (hx : Passes CX X E)
    (hkw : PK X kws tk) (hall : (backToKw pos (keywordEach kws X.env)).all (·.1.isSome) = true := by rfl) (hks : (backToKw pos (keywordEach kws X.env)).filterMap (·.1) = ks := by rfl)
    (hdb : (x == ("__debug__" : Str)) = false := by decide)
    (hpl : ((backTo pos (starEach [] X.env)).any (·.1) || (backToKw pos (keywordEach kws X.env)).any (·.1.isNone)) = false := by rfl) :
    PE X (.Call (.Name x p) [] kws pos) (tCallKw sp gV E tk) := by
  refine ⟨fun pins s σ H Q I h => ?_⟩
  refine wpAny_Call_Name_kw (ld_glob I hg hm ?_ hdb)
  refine PySem.W.callWith_KW0 (h₀ := X.base) I.ok.mod.kin hk hall (thn (hkw.run pos pins s σ H _ I h) fun ws s2 ⟨zs, H2, I2, rz, q2⟩ => ⟨I2.kIn, ?_⟩) hpl
  rw [hks]
  exact run_fnk F hr hb hx I2 .nil rz q2
end
theorem len_cs (x : Str) : x.length = (cs x).length := by
  show x.cps.size = _
  simp
theorem ixN_of {n j : Nat} (h : j < n) : ixN n (j : Int) = some j := by
  unfold ixN
  rw [if_pos (by omega), if_pos (by omega)]
  simp
theorem fm0 {m : Int} (h : 0 < m) (a : Int) : 0 ≤ a.fmod m := by
  rw [Int.fmod_eq_emod_of_nonneg _ (by omega)]
  exact Int.emod_nonneg _ (by omega)
theorem fm1 {m : Int} (h : 0 < m) (a : Int) : a.fmod m < m := by
  rw [Int.fmod_eq_emod_of_nonneg _ (by omega)]
  exact Int.emod_lt_of_pos _ h
/-- a while's word over a natural number -/
theorem while_n {c : TT} {tb : TS} {D : Ends} {σ : L2.St} {H : Hp} (Pv : Nat → L2.St → Hp → Prop) (m : Nat) (h0 : Pv m σ H)
    (hs : ∀ m σ H, Pv m σ H → c σ H fun b H1 => if b = true then ∃ N : L2.St → Hp → Prop, (∀ σ' H', N σ' H' → ∃ m', m' < m ∧ Pv m' σ' H') ∧ tb { D with nx := N, ct := N, bk := D.nx } σ H1 else D.nx σ H1) : tWhile c tb D σ H :=
  ⟨Pv, ⟨m, h0⟩, hs⟩
/-! # cases -/
def tNoE : TE := fun _ _ _ => False
theorem pe_no {X : Cx} {e : Expr} : PE X e tNoE := ⟨fun _ _ _ _ _ _ h => h.elim⟩
/-- True, False as a pattern -/
def rBool (c : Bool) : PatR := fun v _ Q => ∃ b, v = .bl b ∧ Q (if b = c then some [] else none)
theorem pp_bool {X : Cx} {pos : Pos} {c : Bool} : PPt X (.MatchSingleton (.bool c) pos) [] (rBool c) := by
  refine ⟨fun pins s σ H v u Q I r h => ?_⟩
  obtain ⟨b, rfl, q⟩ := h
  obtain rfl : u = Value.bool b := r
  refine wpAny_matchPattern_Singleton_bool ?_
  cases b <;> cases c
  · exact ⟨I, rfl, [], .nil, q⟩
  · exact ⟨I, q⟩
  · exact ⟨I, q⟩
  · exact ⟨I, rfl, [], .nil, q⟩
theorem either_bool {b : Bool} {H : Hp} {Q : Option (List V) → Prop} (h : Q (some [])) : rOr [rBool true, rBool false] (.bl b) H Q := by
  cases b
  · exact ⟨false, rfl, ⟨false, rfl, h⟩⟩
  · exact ⟨true, rfl, h⟩
def rNo : PatR := fun _ _ _ => False
theorem pcs_never {X : Cx} {cases : List MatchCase} : PCs X cases [([], rNo, fun _ _ _ => False)] := ⟨fun _ _ _ _ _ _ _ _ _ _ h => h.elim⟩
def Hit (r : PatR) (y : Str) : Prop := ∀ H Q, Q (some []) → r (.str y) H Q
def Miss (r : PatR) (y : Str) : Prop := ∀ H Q, Q none → r (.str y) H Q
theorem hit_lit {c : Str} : Hit (rLit c) c := fun H Q h => ⟨c, rfl, by rw [if_pos rfl]; exact h⟩
theorem miss_lit {c y : Str} (ne : y ≠ c) : Miss (rLit c) y := fun H Q h => ⟨y, rfl, by rw [if_neg ne]; exact h⟩
theorem hit_or {r : PatR} {rs : List PatR} {y : Str} (h : Hit r y) : Hit (rOr (r :: rs)) y := fun H Q q => h H _ q
theorem hit_or2 {r : PatR} {rs : List PatR} {y : Str} (m : Miss r y) (h : Hit (rOr rs) y) : Hit (rOr (r :: rs)) y := fun H Q q => m H _ (h H Q q)
theorem miss_or {r : PatR} {rs : List PatR} {y : Str} (m : Miss r y) (h : Miss (rOr rs) y) : Miss (rOr (r :: rs)) y := fun H Q q => m H _ (h H Q q)
theorem miss_or0 {y : Str} : Miss (rOr []) y := fun H Q q => q
theorem each_caps {H : Hp} : ∀ {ys : List V} {Q : Option (List V) → Prop}, Q (some ys) → rEach (List.replicate ys.length rCap) ys H Q
  | [], _, h => h
  | y :: ys, Q, h => by
    show rEach (List.replicate ys.length rCap) ys H _
    exact each_caps (ys := ys) (Q := fun o' => match o' with | none => Q none | some more => Q (some ([y] ++ more))) h
theorem case_hit {K : Frag} {n : Nat} {r : PatR} {rs : List PatR} {is : List Nat} {t : TS} {rest : List (List Nat × PatR × TS)} {a : Addr} {c : Str} {ys : List V} {D : Ends} {σ : L2.St} {H : Hp} (hq : SqT K H a (.str c :: ys)) (hh : Hit r c) (h : t D (setAll σ is ys) H)
    (hr : rs = List.replicate ys.length rCap := by rfl) (hn : n = ys.length + 1 := by rfl) : tCases ((is, rSeq K n (r :: rs), t) :: rest) (.ref a) D σ H := by
  subst hr
  subst hn
  refine ⟨a, _, rfl, hq, fun ne => absurd rfl ne, fun _ => ?_⟩
  refine hh H _ ?_
  exact each_caps (Q := fun o' => match o' with | none => tCases rest (.ref a) D σ H | some more => t D (setAll σ is ([] ++ more)) H) h
theorem case_miss {K : Frag} {n : Nat} {r : PatR} {rs : List PatR} {is : List Nat} {t : TS} {rest : List (List Nat × PatR × TS)} {a : Addr} {c : Str} {ys : List V} {D : Ends} {σ : L2.St} {H : Hp} (hq : SqT K H a (.str c :: ys)) (hh : Miss r c ∨ ys.length + 1 ≠ n) (h : tCases rest (.ref a) D σ H) :
    tCases ((is, rSeq K n (r :: rs), t) :: rest) (.ref a) D σ H := by
  rcases hh with hh | ne
  · exact ⟨a, _, rfl, hq, fun _ => h, fun _ => hh H _ h⟩
  · exact ⟨a, _, rfl, hq, fun _ => h, fun e => absurd e ne⟩
theorem ml {c y : Str} {n m : Nat} (ne : y ≠ c := by decide +kernel) : Miss (rLit c) y ∨ n ≠ m := .inl (miss_lit ne)
/-- what a piece's tuple holds -/
theorem pc_two {K : Frag} {H : Hp} {v : V} {k : Str} {d : PyData} (h : Dp K H v (.tuple [.str k, d])) : ∃ a x, v = .ref a ∧ SqT K H a [.str k, x] ∧ Dp K H x d := by
  obtain ⟨a, xs, rfl, hq, all⟩ := dp_tup h
  cases all with
  | cons h1 t1 =>
    obtain rfl := dp_str h1
    cases t1 with
    | cons h2 t2 =>
      cases t2
      exact ⟨a, _, rfl, hq, h2⟩
theorem pc_three {K : Frag} {H : Hp} {v : V} {k : Str} {d e : PyData} (h : Dp K H v (.tuple [.str k, d, e])) : ∃ a x y, v = .ref a ∧ SqT K H a [.str k, x, y] ∧ Dp K H x d ∧ Dp K H y e := by
  obtain ⟨a, xs, rfl, hq, all⟩ := dp_tup h
  cases all with
  | cons h1 t1 =>
    obtain rfl := dp_str h1
    cases t1 with
    | cons h2 t2 =>
      cases t2 with
      | cons h3 t3 =>
        cases t3
        exact ⟨a, _, _, rfl, hq, h2, h3⟩
/-- data that can be laid, no deeper than n -/
def Sh (n : Nat) (d : PyData) : Prop := d.canLay0 = true ∧ d.depth ≤ n
theorem sh_all {n : Nat} : ∀ {ds : List PyData}, (∀ d ∈ ds, Sh n d) → PyData.canLayAll0 ds = true ∧ PyData.depthAll ds ≤ n
  | [], _ => ⟨PyData.canLayAll0.eq_1, by rw [PyData.depthAll.eq_1]; exact Nat.zero_le _⟩
  | d :: ds, h => by
    have h1 := h d (.head _)
    have h2 := sh_all (n := n) (ds := ds) fun e m => h e (.tail _ m)
    exact ⟨by rw [PyData.canLayAll0.eq_2, h1.1, h2.1]; rfl, by rw [PyData.depthAll.eq_2]; exact Nat.max_le.mpr ⟨h1.2, h2.2⟩⟩
theorem sh_lst {n : Nat} {ds : List PyData} (h : ∀ d ∈ ds, Sh n d) : Sh (n + 1) (.list ds) := by
  have z := sh_all h
  exact ⟨by rw [PyData.canLay0.eq_5]; exact z.1, by rw [PyData.depth.eq_1]; omega⟩
theorem sh_tup {n : Nat} {ds : List PyData} (h : ∀ d ∈ ds, Sh n d) : Sh (n + 1) (.tuple ds) := by
  have z := sh_all h
  exact ⟨by rw [PyData.canLay0.eq_6]; exact z.1, by rw [PyData.depth.eq_2]; omega⟩
theorem sh_str {x : Str} (h : PyData.strOk x = true) : Sh 0 (.str x) := ⟨by rw [PyData.canLay0.eq_4]; exact h, Nat.le_of_eq rfl⟩
theorem sh_mono {n m : Nat} {d : PyData} (h : Sh n d) (l : n ≤ m) : Sh m d := ⟨h.1, Nat.le_trans h.2 l⟩
theorem sh_ok {n : Nat} {d : PyData} (h : Sh n d) (l : n ≤ 64 := by decide) : SeqAt.shaped d = true := by
  unfold SeqAt.shaped
  rw [h.1, decide_eq_true (Nat.le_trans h.2 l)]
  rfl
theorem eqv_nil (ds : List PyData) : PyData.eqv (.list ds) (.list []) = ds.isEmpty := by
  cases ds <;> rfl
/-- all of the answers of a walk -/
theorem lc_all {K : Frag} {a D : Addr} {xs : List V} {bs : List Bool} {H : Hp} {σ : L2.St} {vs : List Nat} {g : TG} {te : TE} {Qd : Hp → Prop} (hq : SqL K H a xs) (hD : H D = none) (hb : bs.length = xs.length) (hl : xs.length ≤ 1000)
    (turn : ∀ (i : Nat) (x : V) (b : Bool) (H' : Hp) (Q : VK), xs[i]? = some x → bs[i]? = some b → Same H H' → (∀ H4, Same H' H4 → Q (.bl b) H4) → g x (wipe σ vs) H' fun σ2 H2 => wipe σ2 vs = wipe σ vs ∧ te σ2 H2 Q)
    (hd : ∀ H', Same H H' → SqL K H' D (bs.map V.bl) → Qd H') :
    ∃ W : Nat → Nat → Hp → Prop, (∃ m, W 0 m (L2.upd H D (.lst []))) ∧ ∀ i m H, W i m H →
      ((Itl K a).stop i H ∧ Qd H) ∨ ((Itl K a).go i H ∧ ∃ Nx : Hp → Prop, (∀ H', Nx H' → ∃ m', m' < m ∧ W (i + 1) m' H') ∧ ∀ x H', (Itl K a).yld i H x H' → g x (wipe σ vs) H' fun σ2 H2 => wipe σ2 vs = wipe σ vs ∧ tYes σ2 H2 fun b H3 =>
        if b = true then te σ2 H3 fun y H4 => ∃ acc, H4 D = some (.lst acc) ∧ acc.length < sizeLine ∧ Nx (L2.upd H4 D (.lst (acc ++ [y]))) else Nx H3) := by
  refine lc_it (walk_list (xs := xs)) (fun i H' => Same H H' ∧ H' D = some (.lst ((bs.take i).map V.bl))) ⟨same_upd hD, upd_same⟩ (fun i H' _ e => e.1.seq hq) (fun i x H' H2 hi e y => ?_) (fun H' e => ?_)
  · obtain ⟨rfl, hx⟩ := y
    obtain ⟨s1, h1⟩ := e
    obtain ⟨b, hbi⟩ : ∃ b, bs[i]? = some b := ⟨_, List.getElem?_eq_getElem (by omega)⟩
    refine turn i x b H2 _ hx hbi s1 fun H4 s4 => ⟨_, s4 _ _ h1, ?_, same_upd2 (s1.trans s4) hD, ?_⟩
    · rw [List.length_map, List.length_take, sizeLine_eq]
      omega
    · rw [upd_same, take_snoc hbi, List.map_append]
      rfl
  · obtain ⟨s1, h1⟩ := e
    rw [← hb, List.take_length] at h1
    exact hd H' s1 (SqL.of h1)
def hide (H : Hp) (W : Addr) : Hp := fun b => if b = W then none else H b
theorem hide_same {H : Hp} {W : Addr} : Same (hide H W) H := fun b o h => by
  unfold hide at h
  by_cases e : b = W
  · rw [if_pos e] at h; cases h
  · rw [if_neg e] at h; exact h
theorem hide_upd {H : Hp} {W : Addr} {o : HO} : Same (hide H W) (hide (L2.upd H W o) W) := fun b u h => by
  unfold hide at h ⊢
  by_cases e : b = W
  · rw [if_pos e] at h; cases h
  · rw [if_neg e] at h ⊢
    rw [upd_ne e]
    exact h
theorem hide_ne {H : Hp} {W b : Addr} {o : HO} (h : H b = some o) (ne : b ≠ W) : hide H W b = some o := by
  unfold hide
  rw [if_neg ne]
  exact h
theorem hide_mono {H H' : Hp} {W : Addr} (s : Same H H') : Same (hide H W) (hide H' W) := fun b u h => by
  unfold hide at h ⊢
  by_cases e : b = W
  · rw [if_pos e] at h; cases h
  · rw [if_neg e] at h ⊢
    exact s b u h
/-- what was there before W came -/
theorem hide_of {H H' : Hp} {W : Addr} (s : Same H H') (h : H W = none) : Same H (hide H' W) := fun b u e => by
  unfold hide
  rw [if_neg (ne_of_none e h)]
  exact s b u e
end Qb
end PySem
namespace PySem
namespace Qb
open PySem.W PySem.Calls PyProof.Rows L2
/-! # errors that are caught and kept -/
/-- the error that was caught, at a: its class and its dict -/
def ErO (cls : Value) (d : Option Addr) (a : Addr) : HO := .ext fun h => ∃ (oe : Obj) (vs : Array Value), h.get? a = some oe ∧ Zc cls d oe ∧ oe.data = .fields vs
theorem erO_ok {P : Program} {w : World} {H : Hp} {h : Heap} {a : Addr} {cls : Value} {d : Option Addr} {oe : Obj} {vs : Array Value} (e : h.get? a = some oe) (z : Zc cls d oe) (f : oe.data = .fields vs) : ObjOk P w H h a (ErO cls d a) :=
  ⟨⟨oe, vs, e, z, f⟩, ⟨_, e⟩, fun h1 h2 ⟨o1, v1, e1, z1, f1⟩ k => ⟨o1, v1, k _ e1, z1, f1⟩⟩
section
variable {X : Cx} {pins : List (Addr × Obj)} {σ : L2.St} {H : Hp} {s : Shared}
/-- a thing that is there and was not spoken of is spoken of from here on -/
theorem inv_track {a : Addr} {o : HO} {oe : Obj} {vs : Array Value} (I : Inv X pins σ H s) (na : H a = none) (ha : s.heap.get? a = some oe) (hd : oe.data = .fields vs) (nL : a ≠ X.env.locals)
    (n0 : ∀ ob, X.s_0.heap.get? a ≠ some ob) (np : ∀ p ∈ X.pn ++ pins, p.1 ≠ a) (new : ObjOk X.prog X.w (L2.upd H a o) s.heap a o) : Inv X pins σ (L2.upd H a o) s where
  ok := I.ok
  os := I.os
  bare := I.bare
  base := {
    keep := I.base.keep
    slot := I.base.slot
    free := fun b ob e n hx => by
      rw [upd_ne (fun z : b = a => n0 ob (z ▸ e))]
      exact I.base.free b ob e n hx
    there := I.base.there
    tups := fun b xs e => by
      have q := I.base.tups b xs e
      rw [upd_ne (ne_of_none q na)]
      exact q
    frzs := fun b ob u e => by
      have q := I.base.frzs b ob u e
      rw [upd_ne (ne_of_none q na)]
      exact q
    tbls := fun b ps e => by
      obtain ⟨more, q⟩ := I.base.tbls b ps e
      exact ⟨more, by rw [upd_ne (ne_of_none q na)]; exact q⟩ }
  loc := I.loc
  cell := I.cell
  free := by
    rw [upd_ne (Ne.symm nL)]
    exact I.free
  freeC := fun x c e => by
    rw [upd_ne (fun z : c = a => by
      obtain ⟨v, ob, h1, h2⟩ := I.cell x c e
      rw [z, ha] at h1
      cases h1
      rw [hd] at h2
      cases h2)]
    exact I.freeC x c e
  pin := fun p hp => by
    obtain ⟨e, n, r⟩ := I.pin p hp
    exact ⟨e, by rw [upd_ne (np p hp)]; exact n, r⟩
  hok := fun b u e => by
    by_cases hb : b = a
    · subst hb
      rw [upd_same] at e
      cases e
      exact new
    · rw [upd_ne hb] at e
      refine (I.hok b u e).stay (fun c v _ q => q) (fun c q => ?_) (fun c xs q => ?_)
      · rw [upd_ne (ne_of_none q na)]
        exact q
      · rw [upd_ne (ne_of_none q na)]
        exact q
  len := I.len
theorem inv_into (a : Addr) (I : Inv X pins σ H s) : Inv (X.suite a (X.pn ++ pins)) [] σ H s where
  ok := I.ok.suite a _
  os := I.os
  bare := I.bare
  base := I.base
  loc := I.loc
  cell := I.cell
  free := I.free
  freeC := I.freeC
  pin := fun p hp => I.pin p (by rw [List.append_nil] at hp; exact hp)
  hok := I.hok
  len := I.len
theorem inv_outof {a : Addr} {qs : List (Addr × Obj)} (good : X.Ok) (I : Inv (X.suite a (X.pn ++ pins)) qs σ H s) : Inv X pins σ H s where
  ok := good
  os := I.os
  bare := I.bare
  base := I.base
  loc := I.loc
  cell := I.cell
  free := I.free
  freeC := I.freeC
  pin := fun p hp => I.pin p (List.mem_append_left _ hp)
  hok := I.hok
  len := I.len
end
/-- what 'except x as n' wishes, where it takes all that comes: slot i is n's, the error stands in the heap from here on -/
def wKeep (K : Frag) (c : Value) (i : Nat) (ts : Addr → Value → Option Addr → TS) (D : Ends) : WX := fun cls d σ H =>
  exmOne K cls c = some true ∧ ∀ a, H a = none → ts a cls d { nx := fun σ' H' => D.nx (σ'.set i none) H', rt := D.rt, bk := fun σ' H' => D.bk (σ'.set i none) H', ct := fun σ' H' => D.ct (σ'.set i none) H' } (σ.set i (some (.ref a))) (L2.upd H a (ErO cls d a))
section
variable {X : Cx} {x n : Str} {c : Value} {i : Nat} {body more : List Stmt} {b0 : Stmt} {p1 p2 p3 : Pos} {tb : WX → TS} {ts : Addr → Value → Option Addr → TS}
theorem ps_try_keep (stk : X.stack = X.env :: X.outer) (frm : X.env.frame = some X.env.locals) (noex : X.ex = []) (nd : X.N.Nodup) (hi : X.N[i]? = some n) (loc : X.env.kindOf n = some .local) (nm : Names X x c)
    (hb : ∀ (W : WX) (pn : List (Addr × Obj)) (xe : Value → Shared → Prop), Takes (X.tr pn xe) W → PassesOwn (model X.prog X.w) X.A X.env xe → PSs (X.tr pn xe) body (tb W))
    (hsu : ∀ (a : Addr) (cls : Value) (d : Option Addr) (pn : List (Addr × Obj)), PSs (X.suite a pn) (b0 :: more) (ts a cls d)) :
    PS X (.Try body [.ExceptHandler (some (.Name x p1)) (some n) (b0 :: more) p2] [] [] p3) (fun D σ H => tb (wKeep X.K c i ts D) D σ H) := by
  refine ⟨fun pins s σ H D I h => ?_⟩
  have good := I.ok
  have allF : X.A.frames = some (X.env :: X.outer) := good.frames.trans (congrArg some stk)
  have lo : L2.Loc X.env.scope n := .inl loc
  have caught : ∀ (u : Value) (z : Shared), XE (X.tr (X.pn ++ pins) fun e z0 => wpAny (model X.prog X.w) X.A (noteFrame e X.env) (fun _ z1 => wpAny (model X.prog X.w) X.A (setFlight e none) (fun _ z2 =>
      wpAny (model X.prog X.w) X.A (handleBy e X.env [.ExceptHandler (some (.Name x p1)) (some n) (b0 :: more) p2]) (SP X pins D) X.xe z2) X.xe z1) X.xe z0) (wKeep X.K c i ts D) u z →
      wpAny (model X.prog X.w) X.A (noteFrame u X.env) (fun _ z1 => wpAny (model X.prog X.w) X.A (setFlight u none) (fun _ z2 =>
      wpAny (model X.prog X.w) X.A (handleBy u X.env [.ExceptHandler (some (.Name x p1)) (some n) (b0 :: more) p2]) (SP X pins D) X.xe z2) X.xe z1) X.xe z := by
    rintro u z ⟨e, B, sI, qs, σ1, H1, cls, d, rfl, J0, inB, ups, air, ne, sameOs, gens, ofC, wish⟩
    have J : Inv X pins σ1 H1 sI := J0.ofTry good
    have air2 : Sky B (X.env :: X.outer) e (Zc cls d) X.env.locals z.heap := stk ▸ air
    refine Sky.land Zc.steady allF frm air2 fun h1 fly ups1 => ?_
    obtain ⟨oe1, vs1, get1, zc1, dat1⟩ := fly.there
    have notF : e ∉ frs (X.env :: X.outer) := fun hm => by
      obtain ⟨_, ob, eo, nofl⟩ := fly.2.2.1.mem hm
      rw [get1] at eo
      cases eo
      exact nofl _ dat1
    have notL : e ≠ X.env.locals := fun q => notF (List.mem_filterMap.mpr ⟨X.env, List.mem_cons_self, by rw [frm, q]⟩)
    have noI : sI.heap.get? e = none := by
      cases q : sI.heap.get? e with
      | none => rfl
      | some ob =>
        have q2 := inB e ob q (by show e ∉ frs X.stack; rw [stk]; exact notF)
        rw [fly.2.1] at q2
        cases q2
    have no0 : ∀ ob, X.s_0.heap.get? e ≠ some ob := fun ob q => by
      obtain ⟨ob2, q2⟩ := J.base.there e ob q (by rw [noex]; exact fun y => nomatch y)
      rw [noI] at q2
      cases q2
    have noP : ∀ p ∈ X.pn ++ pins, p.1 ≠ e := fun p hp q => by
      have q2 := (J.pin p hp).1
      rw [q, noI] at q2
      cases q2
    have S1 : Inv (X.suite e (X.pn ++ pins)) [] σ1 H1 { z with heap := h1 } := inv_into e (J.landed inB fly.1 (ups.trans ups1) sameOs gens)
    refine wpAny_handleBy_cons (codeAny_handlers_test ?_) (by intro q; cases q)
    have LT : Looks (model X.prog X.w) h1 (typeOf (.ref e)) cls := fun A Q E s k q => wpAny_typeOf_ref (k _ _ get1) (by rw [zc1.1]; exact q)
    have LM := exm_one (M := model X.prog X.w) S1.kIn LT ofC
    have named : ∀ {Q : Value → Shared → Prop} {E : Value → Shared → Prop}, Q c { z with heap := h1 } → wpAny (model X.prog X.w) (X.A.mark (some (.ref e))) (eval (.Name x p1) X.env) Q E { z with heap := h1 } := fun {Q E} q => by
      obtain ⟨hg, hdbg, hm | ⟨hm, hv, hnn⟩⟩ := nm
      · exact ld_glob (X := X.suite e (X.pn ++ pins)) S1 hg hm q hdbg
      · exact ld_blt (X := X.suite e (X.pn ++ pins)) S1 hg hm hv q hnn hdbg
    refine named (LM.here ?_)
    refine codeAny_handlers_suite_as ?_
    refine HandSPX.lands_againZ fly fun h2 fly2 ups2 => ?_
    have J2 : Inv X pins σ1 H1 { z with heap := h2 } := J.landed inB fly2.1 ((ups.trans ups1).trans ups2) sameOs gens
    obtain ⟨oe2, vs2, get2, zc2, dat2⟩ := fly2.there
    have S2 := inv_into e (inv_track (o := ErO cls d e) J2 ne get2 dat2 notL no0 noP (erO_ok get2 zc2 dat2))
    refine store_ok (X := X.suite e (X.pn ++ pins)) (v := .ref e) S2 nd hi lo rfl (fun s3 S3 => ?_) (.inr loc)
    refine wpAny_mono ((hsu e cls d (X.pn ++ pins)).run [] s3 _ _ _ S3 (wish e ne)) (fun fl s4 end4 => ?_) (fun _ _ y => y.elim)
    have bye : ∀ {σ4 : L2.St} {H4 : Hp} {Q : Shared → Prop}, Inv (X.suite e (X.pn ++ pins)) [] σ4 H4 s4 → (∀ s5, Inv X pins (σ4.set i none) H4 s5 → Q s5) →
        wpAny (model X.prog X.w) X.A (do bindName X.env n .none; unbindBehindTheSuite X.env n p2) (fun _ s5 => Q s5) X.xe s4 := fun {σ4 H4 Q} S4 q => gone_ok (inv_outof good S4) nd hi loc q
    cases fl with
    | next =>
      obtain ⟨σ4, H4, S4, q4⟩ := end4
      exact bye S4 fun s5 J5 => ⟨_, _, J5, q4⟩
    | brk =>
      obtain ⟨σ4, H4, S4, q4⟩ := end4
      exact bye S4 fun s5 J5 => ⟨_, _, J5, q4⟩
    | cont =>
      obtain ⟨σ4, H4, S4, q4⟩ := end4
      exact bye S4 fun s5 J5 => ⟨_, _, J5, q4⟩
    | ret u =>
      obtain ⟨v4, σ4, H4, S4, r4, q4⟩ := end4
      exact bye S4 fun s5 J5 => ⟨_, _, _, J5, r4, q4⟩
  refine wpAny_Try_except (wpAny_mono ((hb (wKeep X.K c i ts D) (X.pn ++ pins) _ caught PassesOwn.looking).run [] s σ H D (I.toTry _) h) (fun fl s1 end1 => ?_) fun _ _ y => y)
  cases fl with
  | next =>
    obtain ⟨σ1, H1, J1, q⟩ := end1
    exact wpAny_execs_nil ⟨σ1, H1, J1.ofTry good, q⟩
  | brk =>
    obtain ⟨σ1, H1, J1, q⟩ := end1
    exact ⟨σ1, H1, J1.ofTry good, q⟩
  | cont =>
    obtain ⟨σ1, H1, J1, q⟩ := end1
    exact ⟨σ1, H1, J1.ofTry good, q⟩
  | ret u =>
    obtain ⟨v, σ1, H1, J1, r, q⟩ := end1
    exact ⟨v, σ1, H1, J1.ofTry good, r, q⟩
end
/-! # the classes of errors -/
/-- what the written part says of one class of errors: its name x, its object at C, behind itself ms in the order of lookup; fI: the one __init__ -/
structure EC (K : Frag) (mg : Str → Option Value) (fI : Addr) (x : Str) (C : Addr) (ms : List Value) : Prop where
  gC : mg x = some (.ref C)
  cls : ∃ nm q N bs sn sub ab col dd k0 k1 k2 k3 k5,
    K.lookup C = some (excClassObj nm q C N bs ms true sn sub ab col dd k0 k1 k2 k3 k5 "ValueError.__new__")
  rv : HandSPX.refsVE ms = true
  sa : findIn K (.ref C) "__setattr__" = some (some (.builtin "object.__setattr__"))
  ga : findIn K (.ref C) "__getattribute__" = some (some (.builtin "BaseException.__getattribute__"))
  gg : findIn K (.ref C) "__getattr__" = some none
  no : findIn K (.ref C) "value" = some none
  iC : findIn K (.ref C) "__init__" = some (some (.ref fI))
  kC : keepIn K (.ref C) = true
  cc : findIn K (.ref C) "__class__" = some (some (.builtin "object.__class__"))
structure EG (K : Frag) (fI : Addr) : Prop where
  tI : typeIn K (.ref fI) = some (.type "function")
  hn : specialIn K (.builtin "object.__class__") "__get__" = some (some (.builtin "getset_descriptor.__get__"))
  ht : takesIn K (.builtin "object.__class__") = some true
theorem ec_mk {K : Frag} {mg : Str → Option Value} {h : Heap} {fI C N : Addr} {x nm q : Str} {ms bs : List Value} {sn : List Str} {sub : List Value} {ab : Bool} {col : Option Bool} {dd : Option Addr} {k0 k1 k2 k3 k5 : Option Value}
    (X : K.In h) (G : h.Ns mainGlobals mg) (a : nsIn K mainGlobals x = some (some (.ref C))) (l : K.lookup C = some (excClassObj nm q C N bs ms true sn sub ab col dd k0 k1 k2 k3 k5 "ValueError.__new__")) (rv : HandSPX.refsVE ms = true)
    (sa : findIn K (.ref C) "__setattr__" = some (some (.builtin "object.__setattr__"))) (ga : findIn K (.ref C) "__getattribute__" = some (some (.builtin "BaseException.__getattribute__"))) (gg : findIn K (.ref C) "__getattr__" = some none)
    (no : findIn K (.ref C) "value" = some none) (iC : findIn K (.ref C) "__init__" = some (some (.ref fI))) (kC : keepIn K (.ref C) = true) (cc : findIn K (.ref C) "__class__" = some (some (.builtin "object.__class__"))) : EC K mg fI x C ms :=
  ⟨mg_of X G a, ⟨nm, q, N, bs, sn, sub, ab, col, dd, k0, k1, k2, k3, k5, l⟩, rv, sa, ga, gg, no, iC, kC, cc⟩
section
variable {K : Frag} {mg : Str → Option Value} {fI C : Addr} {x : Str} {ms : List Value}
theorem EC.clsIs (T : EC K mg fI x C ms) : ∃ cd : ClassData, clsIn K C = some cd ∧ cd.mro = .ref C :: ms ∧ cd.hasDict = true := by
  obtain ⟨nm, q, N, bs, sn, sub, ab, col, dd, k0, k1, k2, k3, k5, hC⟩ := T.cls
  refine ⟨{ name := nm, bases := bs, mro := .ref C :: ms, ns := N, qualname := q, hasDict := true, slotNames := sn, subclasses := sub, abstract := ab, collection := col, hasDel := false }, ?_, rfl, rfl⟩
  unfold clsIn
  rw [hC] <;> rfl
theorem EC.mro (T : EC K mg fI x C ms) (b : Value) : mroIn K C b = some ((Value.ref C :: ms).contains b) := by
  obtain ⟨cd, h1, h2, _⟩ := T.clsIs
  unfold mroIn
  rw [h1, Option.bind_some, h2]
  rfl
theorem EC.below (T : EC K mg fI x C ms) (n : String) (h : HandSPX.veTail.contains (.type n) = true) : mroIn K C (.type n) = some true := by
  rw [T.mro, List.contains_cons, HandSPX.refsVE_contains n ms T.rv, h, Bool.or_true]
theorem EC.ty (T : EC K mg fI x C ms) : typeIn K (.ref C) = some (.type "type") := by
  obtain ⟨nm, q, N, bs, sn, sub, ab, col, dd, k0, k1, k2, k3, k5, hC⟩ := T.cls
  show (K.lookup C).map (·.cls) = _
  rw [hC] <;> rfl
theorem EC.oex (T : EC K mg fI x C ms) : OexC K C := by
  obtain ⟨nm, q, N, bs, sn, sub, ab, col, dd, k0, k1, k2, k3, k5, hC⟩ := T.cls
  exact { cls := ⟨nm, q, N, bs, ms, sn, sub, ab, col, dd, k0, k1, k2, k3, k5, hC, T.rv⟩, sa := T.sa, exC := T.below "BaseException" (by decide +kernel), tyC := T.ty, kC := T.kC }
theorem EC.kit (T : EC K mg fI x C ms) (G : EG K fI) {e : Addr} {oe : Obj} {od : Option Obj} : KitX K (.ref e) (.ref C) (fun h => InstAt h e oe C od) := by
  obtain ⟨cd, h1, _, _⟩ := T.clsIs
  exact kitx_exc (by rw [h1]; rfl) T.ga T.gg (T.below "BaseException" (by decide +kernel)) T.cc G.hn G.ht (T.below "object" (by decide +kernel))
/-- isinstance of an error of the class at C against another class of errors -/
theorem EC.one (T : EC K mg fI x C ms) {x' : Str} {D : Addr} {ms' : List Value} (T' : EC K mg fI x' D ms') : kitOne K (.ref C) (.ref D) = some ((Value.ref C :: ms).contains (.ref D)) := by
  unfold kitOne
  by_cases h : (Value.ref C == Value.ref D) = true
  · rw [if_pos h, List.contains_cons]
    have e : C = D := Value.ref.inj (beq_iff_eq.mp h)
    subst e
    simp
  · rw [if_neg h]
    obtain ⟨cd, h1, _, _⟩ := T'.clsIs
    show (if ((clsIn K D).isSome && typeIn K (.ref D) == some (.type "type")) = true then subIn K (.ref C) (.ref D) else none) = _
    rw [if_pos (by rw [h1, T'.ty]; rfl)]
    exact T.mro _
theorem EC.oneT (T : EC K mg fI x C ms) : kitOne K (.ref C) (.type "ValueError") = some true := by
  unfold kitOne
  rw [if_neg (fun q => Value.noConfusion (beq_iff_eq.mp q))]
  show (if kitMeta "ValueError" = true then subIn K (.ref C) (.type "ValueError") else none) = _
  rw [if_pos (by decide +kernel)]
  exact T.below "ValueError" (by decide +kernel)
/-- 'except D' takes an error of the class at C, D behind it in the order of lookup -/
theorem EC.takes (T : EC K mg fI x C ms) {x' : Str} {D : Addr} {ms' : List Value} (T' : EC K mg fI x' D ms') (h : (Value.ref C :: ms).contains (.ref D) = true) : exmOne K (.ref C) (.ref D) = some true := by
  have e1 : (subIn K (.ref D) (.type "BaseException") == some true) = true := by
    rw [show subIn K (.ref D) (.type "BaseException") = some true from T'.below "BaseException" (by decide +kernel)]
    rfl
  obtain ⟨cd, h1, _, _⟩ := T'.clsIs
  have e2 : ((clsIn K D).isSome && typeIn K (.ref D) == some (.type "type")) = true := by
    rw [h1, T'.ty]
    rfl
  show (if (subIn K (.ref D) (.type "BaseException") == some true) = true then (if ((clsIn K D).isSome && typeIn K (.ref D) == some (.type "type")) = true then subIn K (.ref C) (.ref D) else none) else none) = some true
  rw [if_pos e1, if_pos e2]
  show mroIn K C (.ref D) = some true
  rw [T.mro, h]
end
/-- at e: a caught error of the class at C that holds v -/
def ErrV (H : Hp) (e C : Addr) (v : V) : Prop := ∃ d, H e = some (ErO (.ref C) (some d) e) ∧ H d = some (.xd [(("value" : Str), v)])
theorem ErrV.same {H H' : Hp} {e C : Addr} {v : V} (h : ErrV H e C v) (s : Same H H') : ErrV H' e C v := by
  obtain ⟨d, h1, h2⟩ := h
  exact ⟨d, s _ _ h1, s _ _ h2⟩
theorem errv_inst {X : Cx} {pins : List (Addr × Obj)} {σ : L2.St} {H : Hp} {s : Shared} {C e : Addr} {v : V} (I : Inv X pins σ H s) (h : ErrV H e C v) : ∃ (oe od : Obj), InstAt s.heap e oe C (some od) ∧ (∃ u, lookIn "value" od = some (some u) ∧ RelV v u) := by
  obtain ⟨d, h1, h2⟩ := h
  have z1 : ObjOk X.prog X.w H s.heap e (ErO (.ref C) (some d) e) := I.hok e _ h1
  obtain ⟨⟨oe, vs, ge, zc, hf⟩, _, _⟩ := z1
  have z2 : ObjOk X.prog X.w H s.heap d (.xd [(("value" : Str), v)]) := I.hok d _ h2
  obtain ⟨mA, hns, hr⟩ := z2
  obtain ⟨od, hd, hl⟩ := lookIn_ns hns
  have l : List.lookup ("value" : Str) [(("value" : Str), v)] = some v := by simp [List.lookup]
  obtain ⟨u, hu, ru⟩ := RelO.some_of (v := v) (o := mA "value") (by rw [← l]; exact hr "value")
  exact ⟨oe, od, ⟨ge, zc.1, by unfold notCls; rw [hf] <;> rfl, by rw [zc.2]; exact hd⟩, u, by rw [hl, hu], ru⟩
/-- e.value, e an error -/
def tErrW (K : Frag) (mg : Str → Option Value) (fI : Addr) (te : TE) : TE := fun σ H Q => te σ H fun y H1 =>
  ∃ (e C : Addr) (v : V) (x : Str) (ms : List Value), y = .ref e ∧ EC K mg fI x C ms ∧ ErrV H1 e C v ∧ Q v H1
/-- isinstance(e, c), e an error -/
def rIsErrW (K : Frag) (mg : Str → Option Value) (fI : Addr) : List V → Hp → VK → Prop := fun xs H Q =>
  ∃ (e C : Addr) (v c : V) (u : Value) (b : Bool) (x : Str) (ms : List Value), xs = [.ref e, c] ∧ ClsV c u ∧ EC K mg fI x C ms ∧ ErrV H e C v ∧ kitOne K (.ref C) u = some b ∧ Q (.bl b) H
/-- what __init__ does for an error that is being made -/
def spInit (K : Frag) : Sp := fun vs H Q _ => ∃ (a C : Addr) (v : V), vs = [.ref a, v] ∧ OexC K C ∧ findIn K (.ref C) "value" = some none ∧ H a = some (exo a C none) ∧
  ∀ dx, H dx = none → dx ≠ a → Q .non (L2.upd (L2.upd H dx (exd dx [(("value" : Str), v)])) a (exo a C (some dx)))
section
variable {X : Cx} {fI C : Addr} {x : Str} {ms : List Value} {te : TE} {ta : TA} {e : Expr} {p pos : Pos}
theorem pe_errw (he : PE X e te) (hb : attributeBase e "value" X.env (eval e X.env) = eval e X.env := by rfl) :
    PE X (.Attribute e "value" pos) (tErrW X.K X.mg fI te) := by
  refine ⟨fun pins s σ H Q I h => attr_of hb (thn (he.run pins s σ H _ I h) fun u s1 hh => ?_)⟩
  obtain ⟨y, H1, I1, ry, e1, C1, v, x1, ms1, ey, T, er, q⟩ := hh
  subst ey
  obtain rfl : u = Value.ref e1 := ry
  obtain ⟨oe, od, J, u, hu, ru⟩ := errv_inst I1 er
  obtain ⟨cd, h1, h2, h3⟩ := T.clsIs
  have hd : hasDictIn X.K C1 = true := by
    show (clsIn X.K C1).any (·.hasDict) = true
    rw [h1]
    exact h3
  exact HandSPX.exc_get I1.kIn J T.ga T.gg (T.below "BaseException" (by decide +kernel)) (findObj_own hd T.no rfl hu) (handed_of ru) ⟨v, H1, I1.tok _, ru, q⟩
theorem call_isErrW (G : EG X.K fI) : CallR X (.builtin "isinstance") (rIsErrW X.K X.mg fI) := by
  intro pins s σ H xs us Q I r h
  obtain ⟨e, C, v, c, w, b, x, ms, rfl, k, T, er, ek, q⟩ := h
  obtain ⟨u1, u2, rfl, r1, r2⟩ := vals2 r
  obtain rfl : u1 = Value.ref e := r1
  have e2 := k.eq r2
  subst e2
  obtain ⟨oe, od, J, _⟩ := errv_inst I er
  exact kia_one (T.kit G) I.kIn J ek (fun z => nomatch z) fun tk => ⟨.bl b, H, I.tok tk, rfl, q⟩
end
/-- the error that was made, and let go -/
theorem init_end {K : Frag} {C : Addr} {v : V} {H1 : Hp} {Q : XK} (T : OexC K C) (no : findIn K (.ref C) "value" = some none)
    (q : ∀ d, H1 d = none → Q (.ref C) (some d) (L2.upd H1 d (.xd [(("value" : Str), v)]))) : [v].length ≤ 1000 ∧ ∀ a, H1 a = none → spInit K (.ref a :: ([v] ++ [])) (L2.upd H1 a (exo a C none))
      (fun y H2 => y = .non ∧ ∃ (d : Addr) (fs : List (Str × V)), H2 a = some (exo a C (some d)) ∧ H2 d = some (exd d fs) ∧ H1 d = none ∧ Q (.ref C) (some d) (L2.upd (del H2 a) d (.xd fs))) (fun _ _ _ => False) := by
  refine ⟨(by show 1 ≤ 1000; decide), fun a na => ⟨a, C, v, rfl, T, no, upd_same, fun dx nd ne => ⟨rfl, dx, [(("value" : Str), v)], upd_same, ?_, ?_, ?_⟩⟩⟩
  · rw [upd_ne ne, upd_same]
  · rw [upd_ne ne] at nd
    exact nd
  · rw [upd_ne ne] at nd
    have z := q dx nd
    refine cast (congrArg _ ?_) z
    funext b
    by_cases h1 : b = dx
    · rw [h1, upd_same, upd_same]
    · rw [upd_ne h1, upd_ne h1]
      by_cases h2 : b = a
      · rw [h2, del_same]
        exact na
      · rw [del_ne h2, upd_ne h2, upd_ne h1, upd_ne h2]
end Qb
end PySem
namespace PySem
namespace Qb
open PySem.W PySem.Calls PyProof.Rows L2
/-! # things that share no list: S holds the places of their lists -/
mutual
inductive Ow (K : Frag) (H : Hp) : V → PyData → List Addr → Prop where
  | non : Ow K H .non .none []
  | bl (b : Bool) : Ow K H (.bl b) (.bool b) []
  | int (i : Int) : Ow K H (.int i) (.int i) []
  | str (x : Str) : Ow K H (.str x) (.str x) []
  | lst {a : Addr} {xs : List V} {ds : List PyData} {S : List Addr} (h : H a = some (.lst xs)) (al : OwAll K H xs ds S) (n : a ∉ S) : Ow K H (.ref a) (.list ds) (a :: S)
  | tup {a : Addr} {xs : List V} {ds : List PyData} {S : List Addr} (h : SqT K H a xs) (al : OwAll K H xs ds S) : Ow K H (.ref a) (.tuple ds) S
inductive OwAll (K : Frag) (H : Hp) : List V → List PyData → List Addr → Prop where
  | nil : OwAll K H [] [] []
  | cons {v : V} {vs : List V} {d : PyData} {ds : List PyData} {S T : List Addr} (h : Ow K H v d S) (t : OwAll K H vs ds T) (n : ∀ b ∈ S, b ∉ T) : OwAll K H (v :: vs) (d :: ds) (S ++ T)
end
/-- H' is H but at the places S -/
def But (S : List Addr) (H H' : Hp) : Prop := ∀ b u, H b = some u → b ∉ S → H' b = some u
/-- lists stand at all places S -/
def Lis (S : List Addr) (H : Hp) : Prop := ∀ b ∈ S, ∃ xs, H b = some (.lst xs)
section
variable {K : Frag} {H H' H'' : Hp}
theorem But.of (s : Same H H') (S : List Addr) : But S H H' := fun b u e _ => s b u e
theorem But.refl (S : List Addr) : But S H H := fun _ _ e _ => e
theorem But.more {S T : List Addr} (h : But S H H') (l : ∀ b ∈ S, b ∈ T) : But T H H' := fun b u e n => h b u e fun m => n (l b m)
theorem But.trans {S : List Addr} (h : But S H H') (h' : But S H' H'') : But S H H'' := fun b u e n => h' b u (h b u e n) n
theorem But.put {a : Addr} {o : HO} : But [a] H (L2.upd H a o) := fun b u e n => by
  rw [upd_ne (fun z => n (by rw [z]; exact .head _))]
  exact e
theorem ow_lis {v : V} {d : PyData} {S : List Addr} (h : Ow K H v d S) : Lis S H :=
  Ow.rec (motive_1 := fun _ _ S _ => Lis S H) (motive_2 := fun _ _ S _ => Lis S H) (fun b m => by cases m) (fun _ b m => by cases m) (fun _ b m => by cases m) (fun _ b m => by cases m)
    (fun h _ _ ih b m => by
      rcases List.mem_cons.mp m with rfl | m
      · exact ⟨_, h⟩
      · exact ih b m) (fun _ _ ih => ih) (fun b m => by cases m) (fun _ _ _ i1 i2 b m => (List.mem_append.mp m).elim (i1 b) (i2 b)) h
theorem owAll_lis : ∀ {vs : List V} {ds : List PyData} {S : List Addr}, OwAll K H vs ds S → Lis S H
  | _, _, _, .nil => fun b m => by cases m
  | _, _, _, .cons h t _ => fun b m => (List.mem_append.mp m).elim (ow_lis h b) (owAll_lis t b)
theorem sqT_but {S : List Addr} {a : Addr} {xs : List V} (f : But S H H') (l : Lis S H) (h : SqT K H a xs) : SqT K H' a xs := by
  rcases h with (h | ⟨o, h⟩) | h
  · refine .inl (.inl (f _ _ h fun m => ?_))
    obtain ⟨ys, e⟩ := l _ m
    rw [h] at e
    cases e
  · refine .inl (.inr ⟨o, f _ _ h fun m => ?_⟩)
    obtain ⟨ys, e⟩ := l _ m
    rw [h] at e
    cases e
  · exact .inr h
theorem ow_frame {S : List Addr} (f : But S H H') (l : Lis S H) {v : V} {d : PyData} {T : List Addr} (h : Ow K H v d T) : (∀ b ∈ T, b ∉ S) → Ow K H' v d T :=
  Ow.rec (motive_1 := fun v d T _ => (∀ b ∈ T, b ∉ S) → Ow K H' v d T) (motive_2 := fun vs ds T _ => (∀ b ∈ T, b ∉ S) → OwAll K H' vs ds T) (fun _ => .non) (fun b _ => .bl b) (fun i _ => .int i) (fun x _ => .str x)
    (fun h _ n ih m => .lst (f _ _ h (m _ (.head _))) (ih fun b mb => m b (.tail _ mb)) n) (fun h _ ih m => .tup (sqT_but f l h) (ih m)) (fun _ => .nil)
    (fun _ _ n i1 i2 m => .cons (i1 fun b mb => m b (List.mem_append_left _ mb)) (i2 fun b mb => m b (List.mem_append_right _ mb)) n) h
theorem owAll_frame {S : List Addr} (f : But S H H') (l : Lis S H) : ∀ {vs : List V} {ds : List PyData} {T : List Addr}, OwAll K H vs ds T → (∀ b ∈ T, b ∉ S) → OwAll K H' vs ds T
  | _, _, _, .nil, _ => .nil
  | _, _, _, .cons h t n, m => .cons (ow_frame f l h fun b mb => m b (List.mem_append_left _ mb)) (owAll_frame f l t fun b mb => m b (List.mem_append_right _ mb)) n
theorem ow_same (s : Same H H') {v : V} {d : PyData} {T : List Addr} (h : Ow K H v d T) : Ow K H' v d T := ow_frame (S := []) (But.of s _) (fun b m => by cases m) h fun b _ z => by cases z
theorem owAll_same (s : Same H H') {v : List V} {d : List PyData} {T : List Addr} (h : OwAll K H v d T) : OwAll K H' v d T := owAll_frame (S := []) (But.of s _) (fun b m => by cases m) h fun b _ z => by cases z
theorem ow_dp {v : V} {d : PyData} {S : List Addr} (h : Ow K H v d S) : Dp K H v d :=
  Ow.rec (motive_1 := fun v d _ _ => Dp K H v d) (motive_2 := fun vs ds _ _ => DpAll K H vs ds) .non (fun b => .bl b) (fun i => .int i) (fun x => .str x) (fun h _ _ ih => .lst (SqL.of h) ih) (fun h _ ih => .tup h ih) .nil (fun _ _ _ i1 i2 => .cons i1 i2) h
theorem owAll_dp : ∀ {vs : List V} {ds : List PyData} {S : List Addr}, OwAll K H vs ds S → DpAll K H vs ds
  | _, _, _, .nil => .nil
  | _, _, _, .cons h t _ => .cons (ow_dp h) (owAll_dp t)
theorem owAll_add : ∀ {vs : List V} {ds : List PyData} {S : List Addr}, OwAll K H vs ds S → ∀ {v : V} {d : PyData} {T : List Addr}, Ow K H v d T → (∀ b ∈ S, b ∉ T) → ∃ U, OwAll K H (vs ++ [v]) (ds ++ [d]) U ∧ ∀ b, b ∈ U ↔ b ∈ S ∨ b ∈ T
  | _, _, _, .nil, v, d, T, h, _ => ⟨T ++ [], .cons h .nil (fun _ _ z => by cases z), fun b => by simp⟩
  | _, _, _, .cons (S := S1) (T := S2) h0 t n, v, d, T, h, m => by
    obtain ⟨U, hU, e⟩ := owAll_add t h fun b mb => m b (List.mem_append_right _ mb)
    refine ⟨S1 ++ U, .cons h0 hU fun b mb z => ?_, fun b => ?_⟩
    · rcases (e b).mp z with z | z
      · exact n b mb z
      · exact m b (List.mem_append_left _ mb) z
    · rw [List.mem_append, e, List.mem_append, or_assoc]
/-- a list of own things that is being made at D -/
def OwB (K : Frag) (H H' : Hp) (D : Addr) (ds : List PyData) : Prop := H D = none ∧ Same H (hide H' D) ∧ ∃ ys S, H' D = some (.lst ys) ∧ OwAll K H' ys ds S ∧ (∀ b ∈ S, H b = none) ∧ D ∉ S
theorem OwB.new {D : Addr} (n : H D = none) : OwB K H (L2.upd H D (.lst [])) D [] := ⟨n, hide_of (same_upd n) n, [], [], upd_same, .nil, (fun b m => by cases m), (fun m => by cases m)⟩
theorem OwB.base {D : Addr} {ds : List PyData} (b : OwB K H H' D ds) : Same H H' := b.2.1.trans hide_same
theorem OwB.there {D : Addr} {ds : List PyData} (b : OwB K H H' D ds) : ∃ ys, H' D = some (.lst ys) := by
  obtain ⟨n, s0, ys, S, h, r⟩ := b
  exact ⟨ys, h⟩
theorem OwB.same {D : Addr} {ds : List PyData} (b : OwB K H H' D ds) (s : Same H' H'') : OwB K H H'' D ds := by
  obtain ⟨n, s0, ys, S, h, a, nw, nd⟩ := b
  exact ⟨n, s0.trans (hide_mono s), ys, S, s _ _ h, owAll_same s a, nw, nd⟩
theorem OwB.put {H2 : Hp} {D : Addr} {ds : List PyData} (b : OwB K H H' D ds) (s : Same H' H2) : ∃ ys, H2 D = some (.lst ys) ∧ ys.length = ds.length ∧ ∀ v d T, Ow K H2 v d T → (∀ b ∈ T, H' b = none) → OwB K H (L2.upd H2 D (.lst (ys ++ [v]))) D (ds ++ [d]) := by
  have base := b.base
  obtain ⟨n, s0, ys, S, h, a, nw, nd⟩ := b
  refine ⟨ys, s _ _ h, dpLen (owAll_dp a), fun v d T hv nT => ?_⟩
  have ls := owAll_lis a
  have dj : ∀ b ∈ S, b ∉ T := fun b mb z => by
    obtain ⟨xs, e⟩ := ls b mb
    rw [nT b z] at e
    cases e
  have dT : D ∉ T := fun z => by
    have e := nT D z
    rw [h] at e
    cases e
  obtain ⟨U, hU, eU⟩ := owAll_add (owAll_same s a) hv dj
  have nU : D ∉ U := fun z => ((eU D).mp z).elim nd dT
  refine ⟨n, (s0.trans (hide_mono s)).trans hide_upd, _, U, upd_same, owAll_frame (S := [D]) But.put (fun b m => ?_) hU (fun b mb z => ?_), fun b mb => ?_, nU⟩
  · rcases List.mem_singleton.mp m with rfl
    exact ⟨_, s _ _ h⟩
  · rcases List.mem_singleton.mp z with rfl
    exact nU mb
  · rcases (eU b).mp mb with mb | mb
    · exact nw b mb
    · cases e : H b with
      | none => rfl
      | some u =>
        have z := base b u e
        rw [nT b mb] at z
        cases z
end
/-! # data by its depth -/
def Pl0 (d : PyData) : Prop := (∃ x, d = .str x) ∨ (∃ b, d = .bool b) ∨ (∃ i, d = .int i) ∨ d = .none
def Pl : Nat → PyData → Prop
  | 0, d => Pl0 d
  | n + 1, d => Pl0 d ∨ ∃ ds : List PyData, (d = .list ds ∨ d = .tuple ds) ∧ ds.length ≤ 1000 ∧ ∀ e ∈ ds, Pl n e
theorem pl_cases {n : Nat} {d : PyData} (hp : Pl n d) : Pl0 d ∨ ∃ m ds, n = m + 1 ∧ (d = .list ds ∨ d = .tuple ds) ∧ ds.length ≤ 1000 ∧ ∀ e ∈ ds, Pl m e := by
  cases n with
  | zero => exact .inl hp
  | succ m =>
    rcases hp with h | ⟨ds, h⟩
    · exact .inl h
    · exact .inr ⟨m, ds, rfl, h⟩
theorem kan {K : PySem.W.Frag} {t c : Value} {cs : List Value} {r : Bool} (h : PySem.W.kitOne K t c = some false) (hr : PySem.W.kitAny K t cs = some r) : PySem.W.kitAny K t (c :: cs) = some r := kitAny_cons h (fun _ => hr) (fun z => by cases z)
theorem kay {K : PySem.W.Frag} {t c : Value} {cs : List Value} (h : PySem.W.kitOne K t c = some true) : PySem.W.kitAny K t (c :: cs) = some true := kitAny_cons h (fun z => by cases z) (fun _ => rfl)
theorem ty_lst {K : Frag} {H : Hp} {a : Addr} {xs : List V} (h : SqL K H a xs) : TyX K H (.ref a) (.type "list") := by
  rcases h with (h | ⟨o, h⟩) | ⟨o, its, n, h, c, _⟩
  · exact .base (.lst h)
  · exact .base (.frz h)
  · exact .kList h c
theorem ty_tup {K : Frag} {H : Hp} {a : Addr} {xs : List V} (h : SqT K H a xs) : TyX K H (.ref a) (.type "tuple") := by
  rcases h with (h | ⟨o, h⟩) | ⟨o, its, n, h, c, _⟩
  · exact .base (.tup h)
  · exact .fTuple h
  · exact .kTuple h c
/-- data that is no list and no tuple, with its type -/
theorem pl0_ty {K : Frag} {H : Hp} {v : V} {d : PyData} (h : Pl0 d) (dp : Dp K H v d) : Ow K H v d [] ∧ ∃ n, TyX K H v (.type n) ∧ (n = "str" ∨ n = "bool" ∨ n = "int" ∨ n = "NoneType") := by
  rcases h with ⟨x, rfl⟩ | ⟨x, rfl⟩ | ⟨x, rfl⟩ | rfl
  · cases dp
    exact ⟨.str x, _, .base (.str x), .inl rfl⟩
  · cases dp
    exact ⟨.bl x, _, .base (.bl x), .inr (.inl rfl)⟩
  · cases dp
    exact ⟨.int x, _, .base (.int x), .inr (.inr (.inl rfl))⟩
  · cases dp
    exact ⟨.non, _, .base .non, .inr (.inr (.inr rfl))⟩
theorem flat_no {K : Frag} {n : String} (h : n = "str" ∨ n = "bool" ∨ n = "int" ∨ n = "NoneType") : kitOne K (.type n) (.type "list") = some false ∧ kitOne K (.type n) (.type "tuple") = some false ∧ kitOne K (.type n) (.type "dict") = some false := by
  rcases h with rfl | rfl | rfl | rfl
  · exact ⟨kit_ty (by decide +kernel), kit_ty (by decide +kernel), kit_ty (by decide +kernel)⟩
  · exact ⟨kit_ty (by decide +kernel), kit_ty (by decide +kernel), kit_ty (by decide +kernel)⟩
  · exact ⟨kit_ty (by decide +kernel), kit_ty (by decide +kernel), kit_ty (by decide +kernel)⟩
  · exact ⟨kit_ty (by decide +kernel), kit_ty (by decide +kernel), kit_ty (by decide +kernel)⟩
/-- an own copy is made -/
def spOw (K : Frag) : Nat → Sp
  | 0 => fun _ _ _ _ => False
  | n + 1 => fun vs H Q _ => ∃ (v : V) (d : PyData), vs = [v] ∧ Dp K H v d ∧ Pl n d ∧ ∀ (H' : Hp) (u : V) (S : List Addr), Same H H' → Ow K H' u d S → (∀ b ∈ S, H b = none) → Q u H'
/-- what was own is spoilt: nothing but its lists changes -/
def spSl (K : Frag) : Nat → Sp
  | 0 => fun _ _ _ _ => False
  | n + 1 => fun vs H Q _ => ∃ (v : V) (d : PyData) (S : List Addr), vs = [v] ∧ Ow K H v d S ∧ Pl n d ∧ ∀ (H' : Hp), But S H H' → Lis S H' → Q .non H'
end Qb
end PySem
namespace PySem
namespace Qb
open PySem.W PySem.Calls PyProof.Rows L2
/-! # sums, shown and read -/
inductive Sm where
  | num (n : Int)
  | of (w : Str)
  | one (s : Str) (a : Sm)
  | two (s : Str) (a b : Sm)
  | three (s : Str) (a b c : Sm)
def Sm.d : Sm → PyData
  | .num n => .tuple [.str "number", .int n]
  | .of w => .tuple [.str "of", .str w]
  | .one s a => .tuple [.str s, a.d]
  | .two s a b => .tuple [.str s, a.d, b.d]
  | .three s a b c => .tuple [.str s, a.d, b.d, c.d]
abbrev L := List Nat
def digC : L := [48, 49, 50, 51, 52, 53, 54, 55, 56, 57]
def staC : L := cs ("abcdefghijklmnopqrstuvwxyzABCDEFGHIJKLMNOPQRSTUVWXYZ_" : Str)
def namC : L := cs ("abcdefghijklmnopqrstuvwxyzABCDEFGHIJKLMNOPQRSTUVWXYZ_0123456789" : Str)
def wsC : L := [32, 10]
/-- the signs of two parts in the order in which they are looked for -/
def tpk : List (Str × L) := [("&&", [38, 38]), ("||", [124, 124]), ("<=", [60, 61]), (">=", [62, 61]), ("==", [61, 61]), ("!=", [33, 61]), ("<", [60]), (">", [62]), ("*", [42]), ("/", [47]), ("^", [94]), ("+", [43]), ("-", [45])]
theorem tpk_cs : ∀ p ∈ tpk, cs p.1 = p.2 := by decide +kernel
def rks : List (Str × Nat) := [("||", 2), ("&&", 3), ("==", 4), ("!=", 4), ("<", 5), ("<=", 5), (">", 5), (">=", 5), ("+", 6), ("-", 6), ("*", 7), ("/", 7), ("^", 7)]
def rk (s : Str) : Nat := (rks.lookup s).getD 0
def isOp (s : Str) : Bool := (rks.lookup s).isSome
theorem tpk_op : ∀ p ∈ tpk, isOp p.1 = true ∧ 2 ≤ rk p.1 ∧ rk p.1 ≤ 7 := by decide +kernel
theorem op_tpk {s : Str} (h : isOp s = true) : ∃ c, (s, c) ∈ tpk := by
  have key : ∀ q ∈ rks, ∃ p ∈ tpk, p.1 = q.1 := by decide +kernel
  unfold isOp at h
  obtain ⟨n, hn⟩ := Option.isSome_iff_exists.mp h
  have m : (s, n) ∈ rks := by
    have g : ∀ (l : List (Str × Nat)), l.lookup s = some n → (s, n) ∈ l := by
      intro l
      induction l with
      | nil => intro z; cases z
      | cons p l ih =>
        intro z
        obtain ⟨a, b⟩ := p
        rw [List.lookup_cons] at z
        cases e : (s == a) with
        | true =>
          rw [e] at z
          cases z
          obtain rfl := beq_iff_eq.mp e
          exact .head _
        | false =>
          rw [e] at z
          exact .tail _ (ih z)
    exact g _ hn
  obtain ⟨⟨s', c⟩, mp, e⟩ := key _ m
  exact ⟨c, by rw [← (show s' = s from e)]; exact mp⟩
/-! ## shown -/
def Sm.rank : Sm → Nat
  | .num _ => 9
  | .of _ => 9
  | .one _ _ => 8
  | .two s _ _ => rk s
  | .three _ _ _ _ => 1
def isNm (l : L) : Bool := match l with
  | [] => false
  | c :: r => decide (c ∈ staC) && r.all fun d => decide (d ∈ namC)
def aheadC (s : Str) : L := if s = "no" then [33] else [45]
def par (b : Bool) (l : L) : L := if b then 40 :: (l ++ [41]) else l
def Sm.shw : Sm → L
  | .num n => cs (Str.ofString (toString n))
  | .of w => if isNm (cs w) then cs w else 36 :: cs w
  | .one s a => aheadC s ++ par (decide (a.rank < 8)) a.shw
  | .two s a b => par (decide (a.rank < rk s)) a.shw ++ 32 :: (cs s ++ 32 :: par (decide (b.rank < rk s + 1)) b.shw)
  | .three _ a b c => par (decide (a.rank < 2)) a.shw ++ 32 :: 63 :: 32 :: (b.shw ++ 32 :: 58 :: 32 :: par (decide (c.rank < 1)) c.shw)
/-! ## read -/
def spc (r : L) : L := r.dropWhile fun c => decide (c ∈ wsC)
def tpSign (r : L) : Option (Str × L) := tpk.find? fun p => p.2.isPrefixOf r
def digVal (l : L) : Nat := l.foldl (fun n c => 10 * n + (c - 48)) 0
def rdDig (r : L) : Option (L × L) :=
  let d := r.takeWhile fun c => decide (c ∈ digC)
  if d = [] ∨ (d.head? = some 48 ∧ 1 < d.length) then none else some (d, r.dropWhile fun c => decide (c ∈ digC))
def rdPlc : L → Option (L × L)
  | 35 :: r => some ([35], r)
  | 63 :: r => some ([63], r)
  | r => rdDig r
def st (l : L) : Str := ⟨l.toArray⟩
theorem cs_st (l : L) : cs (st l) = l := by simp [st, cs]
theorem st_cs (x : Str) : st (cs x) = x := by
  obtain ⟨a⟩ := x
  show (⟨a.toList.toArray⟩ : Str) = ⟨a⟩
  rw [Array.toArray_toList]
abbrev Rd := L → Option (Sm × L)
def loopW (two : Nat → Rd) : Nat → Nat → Sm → Rd
  | 0, _, _, _ => none
  | m + 1, l, t, r => match tpSign r with
    | none => some (t, r)
    | some p => if l ≤ rk p.1 then (match two (rk p.1 + 1) (r.drop p.2.length) with
        | none => none
        | some (u, r2) => loopW two m l (.two p.1 t u) r2) else some (t, r)
def sumF (sum : Rd) (two : Nat → Rd) : Rd := fun r => match two 2 r with
  | none => none
  | some (t, 63 :: r2) => (match sum r2 with
    | some (a, 58 :: r3) => (match sum r3 with
      | none => none
      | some (b, r4) => some (.three "choose" t a b, r4))
    | _ => none)
  | some (t, r1) => some (t, r1)
def twoF (two : Nat → Rd) (ahead : Rd) : Nat → Rd := fun l r => match ahead r with
  | none => none
  | some (t, r1) => loopW two (r1.length + 1) l t r1
def aheadF (ahead plain : Rd) : Rd := fun r => match spc r with
  | 45 :: r1 => (match ahead r1 with
    | none => none
    | some (t, r2) => some (.one "minus" t, r2))
  | 33 :: r1 => (match ahead r1 with
    | none => none
    | some (t, r2) => some (.one "no" t, r2))
  | r1 => (match plain r1 with
    | none => none
    | some (t, r2) => some (t, spc r2))
def plainF (sum : Rd) : Rd := fun r => match r with
  | 40 :: r1 => (match sum r1 with
    | some (t, 41 :: r2) => some (t, r2)
    | _ => none)
  | 36 :: r1 => (match rdPlc r1 with
    | none => none
    | some (w, r2) => some (.of (st w), r2))
  | c :: r1 => if c ∈ staC then some (.of (st ((c :: r1).takeWhile fun d => decide (d ∈ namC))), (c :: r1).dropWhile fun d => decide (d ∈ namC)) else (match rdDig (c :: r1) with
    | none => none
    | some (d, r2) => some (.num (digVal d), r2))
  | [] => none
structure Rds where
  sum : Rd
  two : Nat → Rd
  ahead : Rd
  plain : Rd
def rds : Nat → Rds
  | 0 => ⟨fun _ => none, fun _ _ => none, fun _ => none, fun _ => none⟩
  | n + 1 => let p := rds n; ⟨sumF p.sum p.two, twoF p.two p.ahead, aheadF p.ahead p.plain, plainF p.sum⟩
end Qb
end PySem
namespace PySem
namespace Qb
open PySem.W PySem.Calls PyProof.Rows L2
/-! # what is read says of what was read -/
def Sm.pcs : Sm → Nat
  | .num _ => 0
  | .of _ => 0
  | .one _ a => a.pcs + if a.rank < 8 then 1 else 0
  | .two s a b => (a.pcs + if a.rank < rk s then 1 else 0) + (b.pcs + if b.rank < rk s + 1 then 1 else 0)
  | .three _ a b c => (a.pcs + if a.rank < 2 then 1 else 0) + b.pcs + (c.pcs + if c.rank < 1 then 1 else 0)
def Sm.pcl (l : Nat) (t : Sm) : Nat := t.pcs + if t.rank < l then 1 else 0
theorem pcl_mono {l m : Nat} {t : Sm} (h : l ≤ m) : t.pcl l ≤ t.pcl m := by
  unfold Sm.pcl
  by_cases a : t.rank < l
  · rw [if_pos a, if_pos (by omega)]
    exact Nat.le_refl _
  · rw [if_neg a]
    omega
theorem pcl_eq {l : Nat} {t : Sm} (h : l ≤ t.rank) : t.pcl l = t.pcs := by
  unfold Sm.pcl
  rw [if_neg (by omega)]
  rfl
def Sm.isz : Sm → Nat
  | .num _ => 0
  | .of _ => 0
  | .one _ a => 1 + a.isz
  | .two _ a b => 1 + a.isz + b.isz
  | .three _ a b c => 1 + a.isz + b.isz + c.isz
/-- how long its repr may be -/
def Sm.rl : Sm → Nat
  | .num n => 12 + (toString n).length
  | .of w => 10 + w.length
  | .one _ a => 11 + a.rl
  | .two _ a b => 10 + a.rl + b.rl
  | .three _ a b c => 16 + a.rl + b.rl + c.rl
def safe (c : Nat) : Prop := c ∈ namC ∨ c = 35 ∨ c = 63
def Sm.good : Sm → Prop
  | .num n => 0 ≤ n ∧ n < 10 ^ 80
  | .of w => ∀ c ∈ cs w, safe c
  | .one s a => (s = "minus" ∨ s = "no") ∧ a.good
  | .two s a b => isOp s = true ∧ a.good ∧ b.good
  | .three s a b c => s = "choose" ∧ a.good ∧ b.good ∧ c.good
def cnt (p : L) : Nat := p.countP fun c => c == 40
def w2c (c : Nat) : Nat := if c ∈ [45, 33, 60, 62, 43, 42, 47, 94, 58] then 2 else if c ∈ [38, 124, 61] then 1 else 0
def w2 (p : L) : Nat := (p.map w2c).sum
theorem cnt_app (a b : L) : cnt (a ++ b) = cnt a + cnt b := List.countP_append ..
theorem w2_app (a b : L) : w2 (a ++ b) = w2 a + w2 b := by
  unfold w2
  rw [List.map_append, List.sum_append]
theorem tpk_w2 : ∀ p ∈ tpk, 2 ≤ w2 p.2 ∧ 1 ≤ p.2.length := by decide +kernel
/-- no row of digits is longer than k -/
def Rn (k : Nat) (r : L) : Prop := ∀ p q s, r = p ++ (q ++ s) → (∀ c ∈ q, c ∈ digC) → q.length ≤ k
theorem Rn.tail {k : Nat} {p r : L} (h : Rn k (p ++ r)) : Rn k r := fun p' q s e d => h (p ++ p') q s (by rw [e, List.append_assoc]) d
structure Ate (r : L) (l : Nat) (t : Sm) (p r' : L) : Prop where
  eq : r = p ++ r'
  pc : t.pcl l ≤ cnt p
  good : t.good
  sz : 2 * t.isz ≤ w2 p
  rl : t.rl ≤ 14 * p.length
  ne : 1 ≤ p.length
def NoNext (l : Nat) (r : L) : Prop := ∀ p, tpSign r = some p → rk p.1 < l
theorem tpSign_mem {r : L} {p : Str × L} (h : tpSign r = some p) : p ∈ tpk ∧ ∃ r', r = p.2 ++ r' ∧ r.drop p.2.length = r' := by
  have h1 := List.mem_of_find?_eq_some h
  have h2 := List.find?_some h
  obtain ⟨r', e⟩ := List.isPrefixOf_iff_prefix.mp h2
  exact ⟨h1, r', e.symm, by rw [← e]; simp⟩
theorem drop_pre {q : Nat → Bool} (r : L) : ∃ p, r = p ++ r.dropWhile q ∧ (r.takeWhile q) = p := ⟨r.takeWhile q, (List.takeWhile_append_dropWhile ..).symm, rfl⟩
theorem spc_pre (r : L) : ∃ p, r = p ++ spc r := let ⟨p, e, _⟩ := drop_pre (q := fun c => decide (c ∈ wsC)) r; ⟨p, e⟩
theorem loop_ate {two : Nat → Rd} (k : Nat) (H : ∀ l r t r', l ≤ 8 → Rn k r → two l r = some (t, r') → (∃ p, Ate r l t p r') ∧ NoNext l r') {l : Nat} (hl : l ≤ 8) :
    ∀ (m : Nat) (t : Sm) (r r0 p0 : L) (t' : Sm) (r' : L), Rn k r0 → Ate r0 l t p0 r → (∀ p, tpSign r = some p → t.pcl (rk p.1) ≤ cnt p0) → loopW two m l t r = some (t', r') →
      (∃ p, Ate r0 l t' p r') ∧ NoNext l r'
  | 0, t, r, r0, p0, t', r', _, _, _, e => by cases e
  | m + 1, t, r, r0, p0, t', r', rn, A, nx, e => by
    unfold loopW at e
    cases hs : tpSign r with
    | none =>
      rw [hs] at e
      cases e
      exact ⟨⟨p0, A⟩, fun p z => by rw [hs] at z; cases z⟩
    | some p =>
      rw [hs] at e
      dsimp only at e
      obtain ⟨mp, r1, e1, ed⟩ := tpSign_mem hs
      by_cases c : l ≤ rk p.1
      · rw [if_pos c, ed] at e
        have rn1 : Rn k r1 := by
          rw [A.eq, e1] at rn
          exact (rn.tail).tail
        have hk := tpk_op p mp
        cases h2 : two (rk p.1 + 1) r1 with
        | none =>
          rw [h2] at e
          cases e
        | some o =>
          obtain ⟨u, r2⟩ := o
          rw [h2] at e
          dsimp only at e
          obtain ⟨⟨q, B⟩, nb⟩ := H _ _ _ _ (by omega) rn1 h2
          have w := tpk_w2 p mp
          have A' : Ate r0 l (.two p.1 t u) (p0 ++ (p.2 ++ q)) r2 := by
            refine ⟨?_, ?_, ⟨hk.1, A.good, B.good⟩, ?_, ?_, ?_⟩
            · rw [A.eq, e1, B.eq]
              simp
            · rw [pcl_eq (show l ≤ (Sm.two p.1 t u).rank from c), cnt_app, cnt_app]
              have z1 := nx p hs
              have z2 := B.pc
              show (t.pcs + if t.rank < rk p.1 then 1 else 0) + (u.pcs + if u.rank < rk p.1 + 1 then 1 else 0) ≤ _
              unfold Sm.pcl at z1 z2
              omega
            · show 2 * (1 + t.isz + u.isz) ≤ _
              rw [w2_app, w2_app]
              have := A.sz
              have := B.sz
              omega
            · show 10 + t.rl + u.rl ≤ _
              have := A.rl
              have := B.rl
              simp only [List.length_append]
              omega
            · have := A.ne
              simp only [List.length_append]
              omega
          refine loop_ate k H hl m _ r2 r0 _ t' r' rn A' (fun p' z => ?_) e
          have z1 := nb p' z
          rw [pcl_eq (show rk p'.1 ≤ (Sm.two p.1 t u).rank from Nat.le_of_lt_succ z1), ← pcl_eq (show l ≤ (Sm.two p.1 t u).rank from c)]
          exact A'.pc
      · rw [if_neg c] at e
        cases e
        refine ⟨⟨p0, A⟩, fun p' z => ?_⟩
        rw [hs] at z
        cases z
        omega
theorem Ate.app {r r' : L} {l : Nat} {t : Sm} {p q : L} (A : Ate r l t p r') (x : L) (e : r' = q ++ x) : Ate r l t (p ++ q) x := by
  refine ⟨by rw [A.eq, e, List.append_assoc], ?_, A.good, ?_, ?_, ?_⟩
  · rw [cnt_app]
    exact Nat.le_trans A.pc (by omega)
  · rw [w2_app]
    exact Nat.le_trans A.sz (by omega)
  · have := A.rl
    rw [List.length_append]
    omega
  · have := A.ne
    rw [List.length_append]
    omega
theorem Ate.pre {r r' : L} {l : Nat} {t : Sm} {p q x : L} (A : Ate r l t p r') (e : x = q ++ r) : Ate x l t (q ++ p) r' := by
  refine ⟨by rw [e, A.eq, List.append_assoc], ?_, A.good, ?_, ?_, ?_⟩
  · rw [cnt_app]
    exact Nat.le_trans A.pc (by omega)
  · rw [w2_app]
    exact Nat.le_trans A.sz (by omega)
  · have := A.rl
    rw [List.length_append]
    omega
  · have := A.ne
    rw [List.length_append]
    omega
theorem Ate.le {r r' : L} {l m : Nat} {t : Sm} {p : L} (A : Ate r l t p r') (h : m ≤ l) : Ate r m t p r' := ⟨A.eq, Nat.le_trans (pcl_mono h) A.pc, A.good, A.sz, A.rl, A.ne⟩
theorem digVal_lt : ∀ (l : L), (∀ c ∈ l, c ∈ digC) → digVal l < 10 ^ l.length := by
  have key : ∀ (l : L) (n : Nat), (∀ c ∈ l, c ∈ digC) → l.foldl (fun n c => 10 * n + (c - 48)) n < (n + 1) * 10 ^ l.length := by
    intro l
    induction l with
    | nil => intro n _; simp
    | cons c l ih =>
      intro n h
      have hc : c - 48 ≤ 9 := (by decide +kernel : ∀ c ∈ digC, c - 48 ≤ 9) c (h c (.head _))
      have z := ih (10 * n + (c - 48)) fun d m => h d (.tail _ m)
      rw [List.foldl_cons, List.length_cons, Nat.pow_succ]
      refine Nat.lt_of_lt_of_le z ?_
      rw [show (n + 1) * (10 ^ l.length * 10) = (10 * n + 10) * 10 ^ l.length by rw [Nat.mul_comm (10 ^ l.length) 10, ← Nat.mul_assoc]; congr 1; omega]
      exact Nat.mul_le_mul_right _ (by omega)
  intro l h
  have z := key l 0 h
  rw [Nat.zero_add, Nat.one_mul] at z
  exact z
theorem tw_mem {p : Nat → Bool} : ∀ {l : L} {c : Nat}, c ∈ l.takeWhile p → p c = true
  | [], c, m => by cases m
  | d :: l, c, m => by
    by_cases h : p d = true
    · rw [List.takeWhile_cons_of_pos h] at m
      rcases List.mem_cons.mp m with rfl | m
      · exact h
      · exact tw_mem m
    · rw [List.takeWhile_cons_of_neg h] at m
      cases m
theorem dig_ate {k : Nat} {r d r2 : L} (h : rdDig r = some (d, r2)) : r = d ++ r2 ∧ 1 ≤ d.length ∧ (∀ c ∈ d, c ∈ digC) := by
  unfold rdDig at h
  dsimp only at h
  split at h
  · cases h
  · rename_i hn
    cases h
    refine ⟨(List.takeWhile_append_dropWhile ..).symm, ?_, fun c m => ?_⟩
    · cases e : r.takeWhile fun c => decide (c ∈ digC) with
      | nil => rw [e] at hn; exact (hn (.inl rfl)).elim
      | cons c l => simp
    · have z := tw_mem m
      simpa using z
theorem cnt_ge (p : L) : 0 ≤ cnt p := Nat.zero_le _
theorem len_str_int {n : Nat} {k : Nat} (h : n < 10 ^ k) (hk : 1 ≤ k) : (toString (n : Int)).length ≤ k := by
  show (toString n).length ≤ k
  show (Nat.repr n).length ≤ k
  exact (Nat.length_repr_le_iff (by omega)).mpr h
theorem plc_ate {r w r2 : L} (h : rdPlc r = some (w, r2)) : r = w ++ r2 ∧ 1 ≤ w.length ∧ ∀ c ∈ w, safe c := by
  unfold rdPlc at h
  split at h
  · cases h
    exact ⟨rfl, by simp, fun c m => .inr (.inl (by simpa using m))⟩
  · cases h
    exact ⟨rfl, by simp, fun c m => .inr (.inr (by simpa using m))⟩
  · obtain ⟨a, b, c⟩ := dig_ate (k := 0) h
    exact ⟨a, b, fun x m => .inl ((by decide +kernel : ∀ c ∈ digC, c ∈ namC) x (c x m))⟩
theorem plain_ate {k n : Nat} (hk : k ≤ 80) {sum : Rd} (H : ∀ r t r', Rn k r → sum r = some (t, r') → ∃ p, Ate r 1 t p r') {r : L} {t : Sm} {r' : L} (rn : Rn k r) (h : plainF sum r = some (t, r')) : ∃ p, Ate r 9 t p r' := by
  unfold plainF at h
  split at h
  · rename_i r1
    cases e : sum r1 with
    | none => rw [e] at h; cases h
    | some o =>
      obtain ⟨u, r2⟩ := o
      rw [e] at h
      split at h
      · rename_i a b r3 e2
        cases e2
        cases h
        obtain ⟨p, A⟩ := H _ _ _ (rn.tail (p := [40])) e
        refine ⟨40 :: (p ++ [41]), ?_, ?_, A.good, ?_, ?_, ?_⟩
        · rw [A.eq]
          simp
        · have z := A.pc
          have z2 : cnt (40 :: (p ++ [41])) = 1 + cnt p := by
            show cnt ([40] ++ (p ++ [41])) = _
            rw [cnt_app, cnt_app]
            rfl
          rw [z2]
          unfold Sm.pcl at z ⊢
          split <;> omega
        · have z := A.sz
          show _ ≤ w2 ([40] ++ (p ++ [41]))
          rw [w2_app, w2_app]
          omega
        · have z := A.rl
          simp only [List.length_cons, List.length_append]
          omega
        · simp
      · cases h
  · rename_i r1
    cases e : rdPlc r1 with
    | none => rw [e] at h; cases h
    | some o =>
      obtain ⟨w, r2⟩ := o
      rw [e] at h
      cases h
      obtain ⟨a, b, c⟩ := plc_ate e
      refine ⟨36 :: w, by rw [a]; rfl, ?_, fun x m => c x (by rw [cs_st] at m; exact m), by simp [Sm.isz], ?_, by simp⟩
      · rw [pcl_eq (show 9 ≤ (Sm.of _).rank from Nat.le_refl _)]
        exact Nat.zero_le _
      · show 10 + (st w).length ≤ _
        rw [len_cs, cs_st, List.length_cons]
        omega
  · rename_i c r1 h1 h2
    split at h
    · rename_i hc
      cases h
      have hc' : c ∈ namC := (by decide +kernel : ∀ c ∈ staC, c ∈ namC) c hc
      refine ⟨_, (List.takeWhile_append_dropWhile ..).symm, ?_, fun x m => .inl ?_, by simp [Sm.isz], ?_, ?_⟩
      · rw [pcl_eq (show 9 ≤ (Sm.of _).rank from Nat.le_refl _)]
        exact Nat.zero_le _
      · rw [cs_st] at m
        simpa using tw_mem m
      · show 10 + (st _).length ≤ _
        rw [len_cs, cs_st, List.takeWhile_cons_of_pos (by simpa using hc'), List.length_cons]
        omega
      · rw [List.takeWhile_cons_of_pos (by simpa using hc'), List.length_cons]
        omega
    · cases e : rdDig (c :: r1) with
      | none => rw [e] at h; cases h
      | some o =>
        obtain ⟨d, r2⟩ := o
        rw [e] at h
        cases h
        obtain ⟨a, b, dd⟩ := dig_ate (k := 0) e
        have lt := digVal_lt d dd
        have ld : d.length ≤ k := rn [] d _ a dd
        refine ⟨d, a, ?_, ⟨by omega, ?_⟩, by simp [Sm.isz], ?_, b⟩
        · rw [pcl_eq (show 9 ≤ (Sm.num _).rank from Nat.le_refl _)]
          exact Nat.zero_le _
        · have z : (10 : Nat) ^ d.length ≤ 10 ^ 80 := Nat.pow_le_pow_right (by decide) (by omega)
          have y := Nat.lt_of_lt_of_le lt z
          exact_mod_cast y
        · show 12 + (toString ((digVal d : Nat) : Int)).length ≤ _
          have := len_str_int lt b
          omega
  · cases h
theorem ahead_ate {k n : Nat} {ahead plain : Rd} (HA : ∀ r t r', Rn k r → ahead r = some (t, r') → ∃ p, Ate r 8 t p r') (HP : ∀ r t r', Rn k r → plain r = some (t, r') → ∃ p, Ate r 9 t p r') {r : L} {t : Sm} {r' : L} (rn : Rn k r) (h : aheadF ahead plain r = some (t, r')) :
    ∃ p, Ate r 8 t p r' := by
  obtain ⟨q, eq⟩ := spc_pre r
  have rq : Rn k (spc r) := by rw [eq] at rn; exact rn.tail
  have sg : ∀ (c : Nat) (s : Str) (r1 : L), 2 ≤ w2 [c] → (s = "minus" ∨ s = "no") → spc r = c :: r1 → (match ahead r1 with | none => none | some (t, r2) => some (Sm.one s t, r2)) = some (t, r') → ∃ p, Ate r 8 t p r' := by
    intro c s r1 hw hs e1 h
    cases e : ahead r1 with
    | none => rw [e] at h; cases h
    | some o =>
      obtain ⟨u, r2⟩ := o
      rw [e] at h
      cases h
      obtain ⟨p, A⟩ := HA _ _ _ (by rw [e1] at rq; exact rq.tail (p := [c])) e
      have z : Ate (spc r) 8 (.one s u) ([c] ++ p) r' := by
        refine ⟨by rw [e1, A.eq]; rfl, ?_, ⟨hs, A.good⟩, ?_, ?_, by simp⟩
        · rw [pcl_eq (show 8 ≤ (Sm.one _ _).rank from Nat.le_refl _), cnt_app]
          have := A.pc
          show u.pcl 8 ≤ _
          omega
        · rw [w2_app]
          have := A.sz
          show 2 * (1 + u.isz) ≤ _
          omega
        · have := A.rl
          show 11 + u.rl ≤ _
          simp only [List.length_append, List.length_cons, List.length_nil]
          omega
      exact ⟨_, z.pre eq⟩
  unfold aheadF at h
  split at h
  · rename_i r1 e1
    exact sg 45 "minus" r1 (by decide +kernel) (.inl rfl) e1 h
  · rename_i r1 e1
    exact sg 33 "no" r1 (by decide +kernel) (.inr rfl) e1 h
  · cases e : plain (spc r) with
    | none => rw [e] at h; cases h
    | some o =>
      obtain ⟨u, r2⟩ := o
      rw [e] at h
      cases h
      obtain ⟨p, A⟩ := HP _ _ _ rq e
      obtain ⟨q2, e2⟩ := spc_pre r2
      exact ⟨_, ((A.le (by decide)).app _ e2).pre eq⟩
theorem sum_ate {k n : Nat} {sum : Rd} {two : Nat → Rd} (H : ∀ r t r', Rn k r → sum r = some (t, r') → ∃ p, Ate r 1 t p r') (H2 : ∀ l r t r', l ≤ 8 → Rn k r → two l r = some (t, r') → (∃ p, Ate r l t p r') ∧ NoNext l r') {r : L} {t : Sm} {r' : L} (rn : Rn k r) (h : sumF sum two r = some (t, r')) :
    ∃ p, Ate r 1 t p r' := by
  unfold sumF at h
  split at h
  · cases h
  · skip
    rename_i t1 r2 e
    obtain ⟨⟨p, A⟩, _⟩ := H2 _ _ _ _ (by decide) rn e
    have rn2 : Rn k r2 := by rw [A.eq] at rn; exact (rn.tail).tail (p := [63])
    split at h
    · rename_i a r3 e3
      obtain ⟨p2, A2⟩ := H _ _ _ rn2 e3
      have rn3 : Rn k r3 := by rw [A2.eq] at rn2; exact (rn2.tail).tail (p := [58])
      cases e4 : sum r3 with
      | none => rw [e4] at h; cases h
      | some o =>
        obtain ⟨b, r4⟩ := o
        rw [e4] at h
        cases h
        obtain ⟨p3, A3⟩ := H _ _ _ rn3 e4
        refine ⟨p ++ ([63] ++ (p2 ++ ([58] ++ p3))), ?_, ?_, ⟨rfl, A.good, A2.good, A3.good⟩, ?_, ?_, ?_⟩
        · rw [A.eq, A2.eq, A3.eq]
          simp
        · rw [pcl_eq (show 1 ≤ (Sm.three _ _ _ _).rank from Nat.le_refl _)]
          simp only [cnt_app]
          have z1 := A.pc
          have z2 := A2.pc
          have z3 := A3.pc
          show t1.pcl 2 + a.pcs + b.pcl 1 ≤ _
          have : a.pcs ≤ a.pcl 1 := Nat.le_add_right _ _
          omega
        · simp only [w2_app]
          have := A.sz
          have := A2.sz
          have := A3.sz
          have : w2 [58] = 2 := by decide +kernel
          show 2 * (1 + t1.isz + a.isz + b.isz) ≤ _
          omega
        · have := A.rl
          have := A2.rl
          have := A3.rl
          show 16 + t1.rl + a.rl + b.rl ≤ _
          simp only [List.length_append, List.length_cons, List.length_nil]
          omega
        · have := A.ne
          simp only [List.length_append]
          omega
    · cases h
  · rename_i t1 r1 e1 e
    cases h
    obtain ⟨⟨p, A⟩, _⟩ := H2 _ _ _ _ (by decide) rn e
    exact ⟨p, A.le (by decide)⟩
theorem rds_ate {k : Nat} (hk : k ≤ 80) : ∀ n, (∀ r t r', Rn k r → (rds n).sum r = some (t, r') → ∃ p, Ate r 1 t p r') ∧ (∀ l r t r', l ≤ 8 → Rn k r → (rds n).two l r = some (t, r') → (∃ p, Ate r l t p r') ∧ NoNext l r') ∧
    (∀ r t r', Rn k r → (rds n).ahead r = some (t, r') → ∃ p, Ate r 8 t p r') ∧ (∀ r t r', Rn k r → (rds n).plain r = some (t, r') → ∃ p, Ate r 9 t p r')
  | 0 => ⟨(fun _ _ _ _ e => by cases e), (fun _ _ _ _ _ _ e => by cases e), (fun _ _ _ _ e => by cases e), (fun _ _ _ _ e => by cases e)⟩
  | n + 1 => by
    obtain ⟨i1, i2, i3, i4⟩ := rds_ate hk n
    refine ⟨fun r t r' rn e => sum_ate (n := 0) i1 i2 rn e, fun l r t r' hl rn e => ?_, fun r t r' rn e => ahead_ate (n := 0) i3 i4 rn e, fun r t r' rn e => plain_ate (n := 0) hk i1 rn e⟩
    have e' : twoF (rds n).two (rds n).ahead l r = some (t, r') := e
    unfold twoF at e'
    cases h : (rds n).ahead r with
    | none => rw [h] at e'; cases e'
    | some o =>
      obtain ⟨u, r1⟩ := o
      rw [h] at e'
      dsimp only at e'
      obtain ⟨p, A⟩ := i3 _ _ _ rn h
      refine loop_ate k (fun l' r t r' a b c => i2 l' r t r' a b c) hl _ _ _ _ _ _ _ rn (A.le hl) (fun q z => ?_) e'
      have hq := tpk_op q (tpSign_mem z).1
      exact Nat.le_trans (pcl_mono (by omega)) A.pc
end Qb
end PySem
namespace PySem
namespace Qb
open PySem.W PySem.Calls PyProof.Rows L2
/-! # what is shown is read again -/
abbrev nmC (n : Nat) : L := cs (Str.ofString (toString n))
theorem nmC_eq (n : Nat) : nmC n = (Nat.toDigits 10 n).map Char.toNat := by
  show (Str.ofString (Nat.repr n)).cps.toList = _
  rw [PyProof.Rows.signs_ofString, Nat.repr_eq_ofList_toDigits, String.toList_ofList]
theorem nmC_lt {n : Nat} (h : n < 10) : nmC n = [48 + n] := by
  rw [nmC_eq, Nat.toDigits_of_lt_base h]
  exact congrArg (fun x => [x]) ((by decide : ∀ n < 10, (Nat.digitChar n).toNat = 48 + n) n h)
theorem nmC_ge {n : Nat} (h : 10 ≤ n) : nmC n = nmC (n / 10) ++ [48 + n % 10] := by
  rw [nmC_eq, nmC_eq, Nat.toDigits_eq_if (by decide), if_neg (by omega), List.map_append]
  exact congrArg (fun x => _ ++ [x]) ((by decide : ∀ n < 10, (Nat.digitChar n).toNat = 48 + n) (n % 10) (Nat.mod_lt _ (by decide)))
theorem dig_in {n : Nat} (h : n < 10) : 48 + n ∈ digC := (by decide : ∀ n < 10, 48 + n ∈ digC) n h
theorem digVal_snoc (l : L) (c : Nat) : digVal (l ++ [c]) = 10 * digVal l + (c - 48) := by
  unfold digVal
  rw [List.foldl_append]
  rfl
theorem nmC_ok (n : Nat) : nmC n ≠ [] ∧ (∀ c ∈ nmC n, c ∈ digC) ∧ (n ≠ 0 → (nmC n).head? ≠ some 48) ∧ digVal (nmC n) = n := by
  induction n using Nat.strongRecOn with
  | _ n ih =>
    by_cases h : n < 10
    · rw [nmC_lt h]
      refine ⟨by simp, fun c m => ?_, fun z e => ?_, ?_⟩
      · rw [List.mem_singleton.mp m]
        exact dig_in h
      · have : 48 + n = 48 := Option.some.inj e
        omega
      · show 10 * 0 + (48 + n - 48) = n
        omega
    · obtain ⟨a, b, c, d⟩ := ih (n / 10) (by omega)
      rw [nmC_ge (by omega)]
      refine ⟨by simp, fun x m => ?_, fun _ e => ?_, ?_⟩
      · rcases List.mem_append.mp m with m | m
        · exact b x m
        · rw [List.mem_singleton.mp m]
          exact dig_in (Nat.mod_lt _ (by decide))
      · refine c (by omega) ?_
        cases q : nmC (n / 10) with
        | nil => exact (a q).elim
        | cons x y => rw [q] at e; exact e
      · rw [digVal_snoc, d]
        omega
/-- what can't go on with a name or a number -/
def Tidy (r : L) : Prop := ∀ c l, r = c :: l → c ∉ namC
theorem tidy_no {r : L} (h : Tidy r) {S : L} (hs : ∀ c ∈ S, c ∈ namC) {l : L} (hl : ∀ c ∈ l, c ∈ S) : (l ++ r).takeWhile (fun c => decide (c ∈ S)) = l ∧ (l ++ r).dropWhile (fun c => decide (c ∈ S)) = r := by
  induction l with
  | nil =>
    cases r with
    | nil => exact ⟨rfl, rfl⟩
    | cons c r =>
      have n : ¬ decide (c ∈ S) = true := fun z => h c r rfl (hs c (of_decide_eq_true z))
      exact ⟨List.takeWhile_cons_of_neg n, List.dropWhile_cons_of_neg n⟩
  | cons c l ih =>
    have z := ih fun d m => hl d (.tail _ m)
    have p : decide (c ∈ S) = true := decide_eq_true (hl c (.head _))
    exact ⟨by rw [List.cons_append, List.takeWhile_cons_of_pos (p := fun c => decide (c ∈ S)) p, z.1], by rw [List.cons_append, List.dropWhile_cons_of_pos (p := fun c => decide (c ∈ S)) p, z.2]⟩
theorem rdDig_of {d r : L} (h : Tidy r) (hn : d ≠ []) (ha : ∀ c ∈ d, c ∈ digC) (h0 : d.head? = some 48 → d.length = 1) : rdDig (d ++ r) = some (d, r) := by
  have z := tidy_no h (S := digC) (by decide +kernel) ha
  unfold rdDig
  dsimp only
  rw [z.1, z.2, if_neg]
  rintro (e | ⟨e, f⟩)
  · exact hn e
  · have := h0 e
    omega
def okPl (w : L) : Prop := w = [35] ∨ w = [63] ∨ (w ≠ [] ∧ (∀ c ∈ w, c ∈ digC) ∧ (w.head? = some 48 → w.length = 1))
theorem rdPlc_of {w r : L} (h : Tidy r) (ho : okPl w) : rdPlc (w ++ r) = some (w, r) := by
  rcases ho with rfl | rfl | ⟨a, b, c⟩
  · rfl
  · rfl
  · have z := rdDig_of h a b c
    cases w with
    | nil => exact (a rfl).elim
    | cons x w =>
      have hx := b x (.head _)
      have n1 : x ≠ 35 := fun e => by rw [e] at hx; revert hx; decide
      have n2 : x ≠ 63 := fun e => by rw [e] at hx; revert hx; decide
      unfold rdPlc
      split
      · rename_i e; exact (n1 (List.cons.inj e).1).elim
      · rename_i e; exact (n2 (List.cons.inj e).1).elim
      · exact z
def Sm.nice : Sm → Prop
  | .num n => 0 ≤ n
  | .of w => isNm (cs w) = true ∨ (isNm (cs w) = false ∧ okPl (cs w))
  | .one s a => (s = "minus" ∨ s = "no") ∧ a.nice
  | .two s a b => isOp s = true ∧ a.nice ∧ b.nice
  | .three s a b c => s = "choose" ∧ a.nice ∧ b.nice ∧ c.nice
def Sm.ht : Sm → Nat
  | .num _ => 0
  | .of _ => 0
  | .one _ a => 1 + a.ht
  | .two _ a b => 1 + max a.ht b.ht
  | .three _ a b c => 1 + max a.ht (max b.ht c.ht)
theorem rank_ge {t : Sm} (h : t.nice) : 1 ≤ t.rank := by
  cases t with
  | num n => show 1 ≤ 9; decide
  | of w => show 1 ≤ 9; decide
  | one s a => show 1 ≤ 8; decide
  | two s a b =>
    obtain ⟨c, m⟩ := op_tpk h.1
    have := (tpk_op _ m).2.1
    show 1 ≤ rk s
    have : 2 ≤ rk s := this
    omega
  | three s a b c => exact Nat.le_refl _
/-- a sum's first sign is no blank -/
theorem nm_cons {l : L} (h : isNm l = true) : ∃ c r, l = c :: r ∧ c ∈ staC ∧ ∀ d ∈ r, d ∈ namC := by
  unfold isNm at h
  cases l with
  | nil => cases h
  | cons c r =>
    have h' : (decide (c ∈ staC) && r.all fun d => decide (d ∈ namC)) = true := h
    rw [Bool.and_eq_true, List.all_eq_true] at h'
    exact ⟨c, r, rfl, of_decide_eq_true h'.1, fun d m => of_decide_eq_true (h'.2 d m)⟩
def First (l : L) : Prop := ∃ c r, l = c :: r ∧ c ∉ wsC
theorem first_app {l r : L} (h : First l) : First (l ++ r) := by
  obtain ⟨c, q, rfl, n⟩ := h
  exact ⟨c, q ++ r, rfl, n⟩
theorem first_par {b : Bool} {l : L} (h : First l) : First (par b l) := by
  cases b
  · exact h
  · exact ⟨40, l ++ [41], rfl, by decide⟩
theorem first_shw : ∀ {t : Sm}, t.nice → First t.shw
  | .num n, h => by
    obtain ⟨m, rfl⟩ : ∃ m : Nat, n = m := ⟨n.toNat, (Int.toNat_of_nonneg h).symm⟩
    obtain ⟨a, b, _⟩ := nmC_ok m
    have e : (Sm.num (m : Int)).shw = nmC m := rfl
    rw [e]
    cases q : nmC m with
    | nil => exact (a q).elim
    | cons c r => exact ⟨c, r, rfl, (by decide : ∀ c ∈ digC, c ∉ wsC) c (b c (by rw [q]; exact .head _))⟩
  | .of w, h => by
    show First (if isNm (cs w) then cs w else 36 :: cs w)
    cases e : isNm (cs w) with
    | true =>
      obtain ⟨c, r, q, m, _⟩ := nm_cons e
      rw [if_pos rfl, q]
      exact ⟨c, r, rfl, (by decide +kernel : ∀ c ∈ staC, c ∉ wsC) c m⟩
    | false =>
      rw [if_neg (by decide)]
      exact ⟨36, cs w, rfl, by decide⟩
  | .one s a, h => by
    show First (aheadC s ++ _)
    unfold aheadC
    split
    · exact ⟨33, _, rfl, by decide⟩
    · exact ⟨45, _, rfl, by decide⟩
  | .two s a b, h => first_app (first_par (first_shw h.2.1))
  | .three s a b c, h => first_app (first_par (first_shw h.2.1))
theorem spc_first {l : L} (h : First l) : spc l = l := by
  obtain ⟨c, r, rfl, n⟩ := h
  unfold spc
  rw [List.dropWhile_cons_of_neg (by simpa using n)]
theorem spc_sp (l : L) : spc (32 :: l) = spc l := by
  unfold spc
  rw [List.dropWhile_cons_of_pos (by decide)]
def LoopTo (n l : Nat) (t : Sm) (r : L) (o : Sm × L) : Prop := ∃ m, m ≤ r.length + 1 ∧ loopW (rds n).two m l t r = some o
theorem loop_more {two : Nat → Rd} : ∀ {m l t r o}, loopW two m l t r = some o → loopW two (m + 1) l t r = some o
  | 0, l, t, r, o, h => by cases h
  | m + 1, l, t, r, o, h => by
    unfold loopW at h ⊢
    cases e : tpSign r with
    | none => rw [e] at h; exact h
    | some p =>
      rw [e] at h
      dsimp only at h ⊢
      by_cases c : l ≤ rk p.1
      · rw [if_pos c] at h ⊢
        cases q : two (rk p.1 + 1) (r.drop p.2.length) with
        | none => rw [q] at h; cases h
        | some x =>
          obtain ⟨u, r2⟩ := x
          rw [q] at h
          dsimp only at h ⊢
          exact loop_more h
      · rw [if_neg c] at h ⊢
        exact h
theorem loop_most {two : Nat → Rd} {m l : Nat} {t : Sm} {r : L} {o : Sm × L} (h : loopW two m l t r = some o) : ∀ {k}, m ≤ k → loopW two k l t r = some o := by
  intro k hk
  induction k with
  | zero =>
    obtain rfl : m = 0 := by omega
    exact h
  | succ k ih =>
    by_cases c : m = k + 1
    · rw [← c]; exact h
    · exact loop_more (ih (by omega))
theorem loop_stop {n l : Nat} {t : Sm} {r : L} (h : NoNext l r) : LoopTo n l t r (t, r) := by
  refine ⟨1, by omega, ?_⟩
  unfold loopW
  cases e : tpSign r with
  | none => rfl
  | some p =>
    dsimp only
    rw [if_neg (by have := h p e; omega)]
theorem two_of {n l : Nat} {t : Sm} {r r1 : L} {o : Sm × L} (h : (rds n).ahead r = some (t, r1)) (k : LoopTo n l t r1 o) : (rds (n + 1)).two l r = some o := by
  obtain ⟨m, hm, e⟩ := k
  show twoF (rds n).two (rds n).ahead l r = some o
  unfold twoF
  rw [h]
  exact loop_most e hm
theorem ahead_sp {n : Nat} (r : L) : (rds (n + 1)).ahead (32 :: r) = (rds (n + 1)).ahead r := by
  show aheadF _ _ (32 :: r) = aheadF _ _ r
  unfold aheadF
  rw [spc_sp]
theorem two_sp {n l : Nat} (r : L) : (rds (n + 2)).two l (32 :: r) = (rds (n + 2)).two l r := by
  show twoF _ _ l (32 :: r) = twoF _ _ l r
  unfold twoF
  rw [ahead_sp]
theorem sum_sp {n : Nat} (r : L) : (rds (n + 3)).sum (32 :: r) = (rds (n + 3)).sum r := by
  show sumF _ _ (32 :: r) = sumF _ _ r
  unfold sumF
  rw [two_sp]
theorem ahead_plain {n : Nat} {r r2 : L} {t : Sm} (hf : First r) (h1 : r.head? ≠ some 45) (h2 : r.head? ≠ some 33) (h : (rds n).plain r = some (t, r2)) : (rds (n + 1)).ahead r = some (t, spc r2) := by
  show aheadF (rds n).ahead (rds n).plain r = _
  unfold aheadF
  rw [spc_first hf]
  obtain ⟨c, q, rfl, _⟩ := hf
  split
  · rename_i e
    cases e
    exact (h1 rfl).elim
  · rename_i e
    cases e
    exact (h2 rfl).elim
  · rw [h]
theorem tp_no {r : L} (h : ∀ c l, r = c :: l → c ∉ [38, 124, 60, 62, 61, 33, 42, 47, 94, 43, 45]) : tpSign r = none := by
  unfold tpSign
  rw [List.find?_eq_none]
  intro p hp z
  obtain ⟨r', e⟩ := List.isPrefixOf_iff_prefix.mp z
  have key : ∀ p ∈ tpk, ∃ c ∈ [38, 124, 60, 62, 61, 33, 42, 47, 94, 43, 45], p.2.head? = some c := by decide +kernel
  obtain ⟨c, hc, e2⟩ := key p hp
  cases q : p.2 with
  | nil => rw [q] at e2; cases e2
  | cons d l =>
    rw [q] at e2 e
    obtain rfl := Option.some.inj e2
    exact h d (l ++ r') e.symm hc
theorem tp_op {s : Str} {c : L} (h : (s, c) ∈ tpk) (r : L) : tpSign (c ++ 32 :: r) = some (s, c) := by
  unfold tpk at h
  simp only [List.mem_cons, List.not_mem_nil, or_false, Prod.mk.injEq] at h
  rcases h with ⟨rfl, rfl⟩ | ⟨rfl, rfl⟩ | ⟨rfl, rfl⟩ | ⟨rfl, rfl⟩ | ⟨rfl, rfl⟩ | ⟨rfl, rfl⟩ | ⟨rfl, rfl⟩ | ⟨rfl, rfl⟩ | ⟨rfl, rfl⟩ | ⟨rfl, rfl⟩ | ⟨rfl, rfl⟩ | ⟨rfl, rfl⟩ | ⟨rfl, rfl⟩ <;> rfl
theorem plainF_40 {sum : Rd} {r1 r2 : L} {t : Sm} (h : sum r1 = some (t, 41 :: r2)) : plainF sum (40 :: r1) = some (t, r2) := by
  show (match sum r1 with
    | some (t, 41 :: r2) => some (t, r2)
    | _ => none) = _
  rw [h]
  rfl
theorem plainF_36 {sum : Rd} {r1 r2 w : L} (h : rdPlc r1 = some (w, r2)) : plainF sum (36 :: r1) = some (.of (st w), r2) := by
  show (match rdPlc r1 with
    | none => none
    | some (w, r2) => some (Sm.of (st w), r2)) = _
  rw [h]
theorem aheadF_45 {ahead plain : Rd} {r r1 r2 : L} {t : Sm} (hs : spc r = 45 :: r1) (h : ahead r1 = some (t, r2)) : aheadF ahead plain r = some (.one "minus" t, r2) := by
  unfold aheadF
  rw [hs]
  show (match ahead r1 with
    | none => none
    | some (t, r2) => some (Sm.one "minus" t, r2)) = _
  rw [h]
theorem aheadF_33 {ahead plain : Rd} {r r1 r2 : L} {t : Sm} (hs : spc r = 33 :: r1) (h : ahead r1 = some (t, r2)) : aheadF ahead plain r = some (.one "no" t, r2) := by
  unfold aheadF
  rw [hs]
  show (match ahead r1 with
    | none => none
    | some (t, r2) => some (Sm.one "no" t, r2)) = _
  rw [h]
theorem sumF_63 {sum : Rd} {two : Nat → Rd} {r r2 r3 r4 : L} {t a b : Sm} (h1 : two 2 r = some (t, 63 :: r2)) (h2 : sum r2 = some (a, 58 :: r3)) (h3 : sum r3 = some (b, r4)) : sumF sum two r = some (.three "choose" t a b, r4) := by
  unfold sumF
  rw [h1]
  show (match sum r2 with
    | some (a, 58 :: r3) => (match sum r3 with
      | none => none
      | some (b, r4) => some (Sm.three "choose" t a b, r4))
    | _ => none) = _
  rw [h2]
  show (match sum r3 with
      | none => none
      | some (b, r4) => some (Sm.three "choose" t a b, r4)) = _
  rw [h3]
structure Back (t : Sm) : Prop where
  A : ∀ n l rest o, 6 * t.ht + 6 ≤ n → l ≤ t.rank → 2 ≤ t.rank → Tidy rest → (∀ p, tpSign (spc rest) = some p → rk p.1 ≤ t.rank) → LoopTo n l t (spc rest) o → (rds (n + 1)).two l (t.shw ++ rest) = some o
  B : ∀ n rest, 6 * t.ht + 6 ≤ n → Tidy rest → tpSign (spc rest) = none → (spc rest).head? ≠ some 63 → (rds (n + 2)).sum (t.shw ++ rest) = some (t, spc rest)
  C : ∀ n rest, 6 * t.ht + 6 ≤ n → 8 ≤ t.rank → Tidy rest → (rds n).ahead (t.shw ++ rest) = some (t, spc rest)
theorem sum_two {n : Nat} {t : Sm} {r r1 : L} (h : (rds n).two 2 r = some (t, r1)) (h1 : r1.head? ≠ some 63) : (rds (n + 1)).sum r = some (t, r1) := by
  show sumF _ _ r = _
  unfold sumF
  split
  · rename_i e
    rw [h] at e
    cases e
  · rename_i e
    rw [h] at e
    cases e
    exact (h1 rfl).elim
  · rename_i e
    rw [h] at e
    cases e
    rfl
theorem back_BA {t : Sm} (h2 : 2 ≤ t.rank) (hA : ∀ n l rest o, 6 * t.ht + 6 ≤ n → l ≤ t.rank → 2 ≤ t.rank → Tidy rest → (∀ p, tpSign (spc rest) = some p → rk p.1 ≤ t.rank) → LoopTo n l t (spc rest) o → (rds (n + 1)).two l (t.shw ++ rest) = some o) :
    ∀ n rest, 6 * t.ht + 6 ≤ n → Tidy rest → tpSign (spc rest) = none → (spc rest).head? ≠ some 63 → (rds (n + 2)).sum (t.shw ++ rest) = some (t, spc rest) := fun n rest hn ti h h63 =>
  sum_two (hA n 2 rest _ hn h2 h2 ti (fun p e => by rw [h] at e; cases e) (loop_stop fun p e => by rw [h] at e; cases e)) h63
theorem tidy_41 {r : L} : Tidy (41 :: r) := fun c l e => by
  cases e
  decide +kernel
theorem tidy_32 {r : L} : Tidy (32 :: r) := fun c l e => by
  cases e
  decide +kernel
theorem tidy_nil : Tidy [] := fun c l e => by cases e
theorem spc_41 {r : L} : spc (41 :: r) = 41 :: r := spc_first ⟨41, r, rfl, by decide⟩
theorem paren_plain {a : Sm} (b : Back a) {n : Nat} (hn : 6 * a.ht + 6 ≤ n) (rest : L) : (rds (n + 3)).plain (40 :: (a.shw ++ 41 :: rest)) = some (a, rest) := by
  refine plainF_40 ?_
  rw [b.B n (41 :: rest) hn tidy_41 (by rw [spc_41]; exact tp_no fun c l e => by cases e; decide) (by rw [spc_41]; simp), spc_41]
theorem paren_ahead {a : Sm} (b : Back a) {n : Nat} (hn : 6 * a.ht + 6 ≤ n) (rest : L) : (rds (n + 4)).ahead (40 :: (a.shw ++ 41 :: rest)) = some (a, spc rest) :=
  ahead_plain ⟨40, _, rfl, by decide⟩ (by simp) (by simp) (paren_plain b hn rest)
theorem par_app (c : Bool) (l r : L) : par c l ++ r = if c = true then 40 :: (l ++ 41 :: r) else l ++ r := by
  cases c
  · rfl
  · show (40 :: (l ++ [41])) ++ r = _
    simp
theorem part_two {a : Sm} (b : Back a) {n l l0 : Nat} {rest : L} {o : Sm × L} (hn : 6 * a.ht + 10 ≤ n) (hl : l ≤ l0) (h2 : 2 ≤ l0) (ti : Tidy rest) (nx : ∀ p, tpSign (spc rest) = some p → rk p.1 ≤ l0) (k : LoopTo n l a (spc rest) o) :
    (rds (n + 1)).two l (par (decide (a.rank < l0)) a.shw ++ rest) = some o := by
  rw [par_app]
  by_cases c : a.rank < l0
  · rw [if_pos (decide_eq_true c)]
    obtain ⟨m, rfl⟩ : ∃ m, n = m + 4 := ⟨n - 4, by omega⟩
    exact two_of (paren_ahead b (by omega) rest) k
  · rw [if_neg (by simpa using c)]
    exact b.A n l rest o (by omega) (by omega) (by omega) ti (fun p e => Nat.le_trans (nx p e) (by omega)) k
theorem part_ahead {a : Sm} (b : Back a) {n : Nat} {rest : L} (hn : 6 * a.ht + 10 ≤ n) (ti : Tidy rest) : (rds n).ahead (par (decide (a.rank < 8)) a.shw ++ rest) = some (a, spc rest) := by
  rw [par_app]
  by_cases c : a.rank < 8
  · rw [if_pos (decide_eq_true c)]
    obtain ⟨m, rfl⟩ : ∃ m, n = m + 4 := ⟨n - 4, by omega⟩
    exact paren_ahead b (by omega) rest
  · rw [if_neg (by simpa using c)]
    exact b.C n rest (by omega) (by omega) ti
theorem back_C {t : Sm} (h : 8 ≤ t.rank) (hC : ∀ n rest, 6 * t.ht + 6 ≤ n → 8 ≤ t.rank → Tidy rest → (rds n).ahead (t.shw ++ rest) = some (t, spc rest)) : Back t := by
  have hA : ∀ n l rest o, 6 * t.ht + 6 ≤ n → l ≤ t.rank → 2 ≤ t.rank → Tidy rest → (∀ p, tpSign (spc rest) = some p → rk p.1 ≤ t.rank) → LoopTo n l t (spc rest) o → (rds (n + 1)).two l (t.shw ++ rest) = some o :=
    fun n l rest o hn _ _ ti _ k => two_of (hC n rest hn h ti) k
  exact ⟨hA, back_BA (by omega) hA, hC⟩
theorem leaf_back {t : Sm} (hr : t.rank = 9) (hf : First t.shw) (h1 : t.shw.head? ≠ some 45) (h2 : t.shw.head? ≠ some 33) (hp : ∀ n rest, Tidy rest → (rds (n + 1)).plain (t.shw ++ rest) = some (t, rest)) : Back t := by
  refine back_C (by omega) fun n rest hn _ ti => ?_
  obtain ⟨m, rfl⟩ : ∃ m, n = m + 2 := ⟨n - 2, by omega⟩
  have hd : ∀ x, t.shw.head? ≠ some x → (t.shw ++ rest).head? ≠ some x := fun x z => by
    obtain ⟨c, q, e, _⟩ := hf
    rw [e] at z ⊢
    exact z
  exact ahead_plain (first_app hf) (hd 45 h1) (hd 33 h2) (hp m rest ti)
theorem sta_nam : ∀ c ∈ staC, c ∈ namC := by decide +kernel
theorem plain_dig {n : Nat} {d rest : L} (ti : Tidy rest) (hn : d ≠ []) (ha : ∀ c ∈ d, c ∈ digC) (h0 : d.head? = some 48 → d.length = 1) : (rds (n + 1)).plain (d ++ rest) = some (.num (digVal d), rest) := by
  have z := rdDig_of ti hn ha h0
  cases d with
  | nil => exact (hn rfl).elim
  | cons x d =>
    have hx := ha x (.head _)
    have n1 : x ≠ 40 := fun e => by rw [e] at hx; revert hx; decide
    have n2 : x ≠ 36 := fun e => by rw [e] at hx; revert hx; decide
    have n3 : x ∉ staC := (by decide +kernel : ∀ c ∈ digC, c ∉ staC) x hx
    show plainF _ (x :: (d ++ rest)) = _
    unfold plainF
    split
    · rename_i e; exact (n1 (List.cons.inj e).1).elim
    · rename_i e; exact (n2 (List.cons.inj e).1).elim
    · rename_i e
      cases e
      rw [if_neg n3]
      have z' : rdDig (x :: (d ++ rest)) = some (x :: d, rest) := z
      rw [z']
    · rename_i e; cases e
theorem back : ∀ {t : Sm}, t.nice → Back t
  | .num n, h => by
    obtain ⟨m, rfl⟩ : ∃ m : Nat, n = m := ⟨n.toNat, (Int.toNat_of_nonneg h).symm⟩
    obtain ⟨a, b, c, d⟩ := nmC_ok m
    have e : (Sm.num (m : Int)).shw = nmC m := rfl
    have c' : (nmC m).head? = some 48 → (nmC m).length = 1 := fun z => by
      by_cases z0 : m = 0
      · subst z0
        rw [nmC_lt (by decide)]
        rfl
      · exact (c z0 z).elim
    have hd : ∀ x, x ∉ digC → (Sm.num (m : Int)).shw.head? ≠ some x := fun x hx z => by
      rw [e] at z
      exact hx (b x (List.mem_of_head? z))
    refine leaf_back rfl (first_shw (t := .num m) h) (hd 45 (by decide)) (hd 33 (by decide)) fun n rest ti => ?_
    rw [e, plain_dig ti a b c', d]
  | .of w, h => by
    have es : (Sm.of w).shw = if isNm (cs w) then cs w else 36 :: cs w := rfl
    rcases h with h | ⟨h, hp⟩
    · rw [h, if_pos rfl] at es
      obtain ⟨c, r, q, m, al⟩ := nm_cons h
      have n1 : ∀ x, x ∉ staC → (Sm.of w).shw.head? ≠ some x := fun x hx z => by
        rw [es, q] at z
        exact hx (by rw [← Option.some.inj z]; exact m)
      refine leaf_back rfl (by rw [es, q]; exact ⟨c, r, rfl, (by decide +kernel : ∀ c ∈ staC, c ∉ wsC) c m⟩) (n1 45 (by decide +kernel)) (n1 33 (by decide +kernel)) fun n rest ti => ?_
      rw [es]
      have t2 := tidy_no ti (S := namC) (fun _ z => z) (l := cs w) (by rw [q]; exact fun d md => by rcases List.mem_cons.mp md with rfl | md; exact sta_nam _ m; exact al d md)
      rw [q] at t2
      show plainF _ (cs w ++ rest) = _
      rw [q]
      unfold plainF
      have k1 : c ≠ 40 := fun e => by rw [e] at m; revert m; decide +kernel
      have k2 : c ≠ 36 := fun e => by rw [e] at m; revert m; decide +kernel
      rw [List.cons_append] at t2 ⊢
      split
      · rename_i e; exact (k1 (List.cons.inj e).1).elim
      · rename_i e; exact (k2 (List.cons.inj e).1).elim
      · rename_i e
        cases e
        rw [if_pos m, t2.1, t2.2, ← q, st_cs]
      · rename_i e; cases e
    · rw [h, if_neg (by decide)] at es
      refine leaf_back rfl (by rw [es]; exact ⟨36, _, rfl, by decide⟩) (by rw [es]; simp) (by rw [es]; simp) fun n rest ti => ?_
      rw [es]
      show plainF (rds n).sum (36 :: (cs w ++ rest)) = _
      rw [plainF_36 (rdPlc_of ti hp), st_cs]
  | .one s a, h => by
    have ba := back h.2
    refine back_C (Nat.le_refl _) fun n rest hn _ ti => ?_
    have hh : (Sm.one s a).ht = 1 + a.ht := rfl
    obtain ⟨m, rfl⟩ : ∃ m, n = m + 1 := ⟨n - 1, by omega⟩
    have z := part_ahead ba (n := m) (rest := rest) (by omega) ti
    have es : (Sm.one s a).shw = aheadC s ++ par (decide (a.rank < 8)) a.shw := rfl
    rw [es]
    rcases h.1 with rfl | rfl
    · exact aheadF_45 (plain := (rds m).plain) (spc_first ⟨45, _, rfl, by decide⟩) z
    · exact aheadF_33 (plain := (rds m).plain) (spc_first ⟨33, _, rfl, by decide⟩) z
  | .two s a b, h => by
    have ba := back h.2.1
    have bb := back h.2.2
    obtain ⟨c, mc⟩ := op_tpk h.1
    have hk : 2 ≤ rk s ∧ rk s ≤ 7 := (tpk_op _ mc).2
    have ec : cs s = c := tpk_cs _ mc
    have hh : (Sm.two s a b).ht = 1 + max a.ht b.ht := rfl
    have hA : ∀ n l rest o, 6 * (Sm.two s a b).ht + 6 ≤ n → l ≤ (Sm.two s a b).rank → 2 ≤ (Sm.two s a b).rank → Tidy rest → (∀ p, tpSign (spc rest) = some p → rk p.1 ≤ (Sm.two s a b).rank) → LoopTo n l (.two s a b) (spc rest) o → (rds (n + 1)).two l ((Sm.two s a b).shw ++ rest) = some o := by
      intro n l rest o hn hl h2 ti nx ⟨m, hm, em⟩
      have hl' : l ≤ rk s := hl
      have es : (Sm.two s a b).shw ++ rest = par (decide (a.rank < rk s)) a.shw ++ (32 :: (c ++ 32 :: (par (decide (b.rank < rk s + 1)) b.shw ++ rest))) := by
        show (par (decide (a.rank < rk s)) a.shw ++ 32 :: (cs s ++ 32 :: par (decide (b.rank < rk s + 1)) b.shw)) ++ rest = _
        rw [ec]
        simp
      have fc : First (c ++ 32 :: (par (decide (b.rank < rk s + 1)) b.shw ++ rest)) := first_app ((by
        have key : ∀ p ∈ tpk, ∃ x ∈ [38, 124, 60, 62, 61, 33, 42, 47, 94, 43, 45], p.2.head? = some x := by decide +kernel
        obtain ⟨x, hx, e2⟩ := key _ mc
        have e2 : c.head? = some x := e2
        cases c with
        | nil => cases e2
        | cons d q =>
          obtain rfl := Option.some.inj e2
          exact ⟨d, q, rfl, (by decide : ∀ c ∈ [38, 124, 60, 62, 61, 33, 42, 47, 94, 43, 45], c ∉ wsC) d hx⟩))
      have e1 : spc (32 :: (c ++ 32 :: (par (decide (b.rank < rk s + 1)) b.shw ++ rest))) = c ++ 32 :: (par (decide (b.rank < rk s + 1)) b.shw ++ rest) := by rw [spc_sp, spc_first fc]
      have tp := tp_op mc (par (decide (b.rank < rk s + 1)) b.shw ++ rest)
      rw [es]
      refine part_two ba (by omega) hl' hk.1 tidy_32 (fun p e => by rw [e1, tp] at e; cases e; exact Nat.le_refl _) ?_
      rw [e1]
      obtain ⟨n', rfl⟩ : ∃ n', n = n' + 2 := ⟨n - 2, by omega⟩
      have second : (rds (n' + 2)).two (rk s + 1) (32 :: (par (decide (b.rank < rk s + 1)) b.shw ++ rest)) = some (b, spc rest) := by
        rw [two_sp]
        refine part_two bb (n := n' + 1) (by omega) (Nat.le_refl _) (by omega) ti (fun p e => Nat.le_succ_of_le (nx p e)) (loop_stop fun p e => Nat.lt_succ_of_le (nx p e))
      refine ⟨m + 1, ?_, ?_⟩
      · have : (spc rest).length ≤ rest.length := by
          obtain ⟨p, e⟩ := spc_pre rest
          have z := congrArg List.length e
          rw [List.length_append] at z
          omega
        have : 1 ≤ c.length := (tpk_w2 _ mc).2
        simp only [List.length_append, List.length_cons]
        omega
      · unfold loopW
        rw [tp]
        dsimp only
        rw [if_pos hl', show (c ++ 32 :: (par (decide (b.rank < rk s + 1)) b.shw ++ rest)).drop c.length = 32 :: (par (decide (b.rank < rk s + 1)) b.shw ++ rest) by simp, second]
        exact em
    exact ⟨hA, back_BA hk.1 hA, fun n rest _ h8 _ => by have : 8 ≤ rk s := h8; omega⟩
  | .three s a b c, h => by
    obtain ⟨rfl, ha, hb, hc⟩ := h
    have ba := back ha
    have bb := back hb
    have bc := back hc
    have hh : (Sm.three "choose" a b c).ht = 1 + max a.ht (max b.ht c.ht) := rfl
    refine ⟨fun n l rest o _ _ h2 => by have : 2 ≤ 1 := h2; omega, fun n rest hn ti tn h63 => ?_, fun n rest _ h8 => by have : 8 ≤ 1 := h8; omega⟩
    have rc : decide (c.rank < 1) = false := by
      have := rank_ge hc
      exact decide_eq_false (by omega)
    have es : (Sm.three "choose" a b c).shw ++ rest = par (decide (a.rank < 2)) a.shw ++ (32 :: 63 :: 32 :: (b.shw ++ (32 :: 58 :: 32 :: (c.shw ++ rest)))) := by
      show (par (decide (a.rank < 2)) a.shw ++ 32 :: 63 :: 32 :: (b.shw ++ 32 :: 58 :: 32 :: par (decide (c.rank < 1)) c.shw)) ++ rest = _
      rw [rc]
      simp [par]
    have s63 : ∀ r, spc (32 :: 63 :: r) = 63 :: r := fun r => by rw [spc_sp, spc_first ⟨63, r, rfl, by decide⟩]
    have s58 : ∀ r, spc (32 :: 58 :: r) = 58 :: r := fun r => by rw [spc_sp, spc_first ⟨58, r, rfl, by decide⟩]
    have t63 : ∀ r, tpSign (63 :: r) = none := fun r => tp_no fun c l e => by cases e; decide
    have t58 : ∀ r, tpSign (58 :: r) = none := fun r => tp_no fun c l e => by cases e; decide
    rw [es]
    have h1 := part_two ba (n := n) (l := 2) (l0 := 2) (rest := 32 :: 63 :: 32 :: (b.shw ++ (32 :: 58 :: 32 :: (c.shw ++ rest)))) (by omega) (Nat.le_refl _) (Nat.le_refl _) tidy_32 (fun p e => by rw [s63, t63] at e; cases e) (loop_stop fun p e => by rw [s63, t63] at e; cases e)
    obtain ⟨n', rfl⟩ : ∃ n', n = n' + 2 := ⟨n - 2, by omega⟩
    have h2 : (rds (n' + 3)).sum (32 :: (b.shw ++ (32 :: 58 :: 32 :: (c.shw ++ rest)))) = some (b, 58 :: 32 :: (c.shw ++ rest)) := by
      rw [sum_sp, bb.B (n' + 1) _ (by omega) tidy_32 (by rw [s58, t58]) (by rw [s58]; simp), s58]
    have h3 : (rds (n' + 3)).sum (32 :: (c.shw ++ rest)) = some (c, spc rest) := by
      rw [sum_sp, bc.B (n' + 1) _ (by omega) ti tn h63]
    rw [s63] at h1
    exact sumF_63 h1 h2 h3
end Qb
end PySem
namespace PySem
namespace Qb
open PySem.W PySem.Calls PyProof.Rows L2
def top (i : Nat) : Stmt := PySem.Challenge.pw_quotedback_k08_sums_read.main.body.getD i (.Pass ⟨0, 0, 0, 0⟩)
/-- names of the machine that the text's top leaves as they are -/
structure Blt (mg : Str → Option Value) : Prop where
  abs : mg "abs" = none
  int : mg "int" = none
  len : mg "len" = none
  range : mg "range" = none
  isi : mg "isinstance" = none
  all : mg "all" = none
  str : mg "str" = none
  repr : mg "repr" = none
  dict : mg "dict" = none
  list : mg "list" = none
  tuple : mg "tuple" = none
def staS : Str := "abcdefghijklmnopqrstuvwxyzABCDEFGHIJKLMNOPQRSTUVWXYZ_"
def namS : Str := "abcdefghijklmnopqrstuvwxyzABCDEFGHIJKLMNOPQRSTUVWXYZ_0123456789"
def digS : Str := "0123456789"
theorem cs_sta : cs staS = staC := rfl
theorem cs_nam : cs namS = namC := rfl
theorem cs_dig : cs digS = digC := by decide +kernel
def plW : List Str := ["0", "#", "?", "@", "*"]
def alW : List Str := ["@", "*"]
def tpW : List Str := ["&&", "||", "<=", ">=", "==", "!=", "<", ">", "*", "/", "^", "+", "-"]
theorem tpW_eq : tpW = tpk.map (·.1) := by decide +kernel
/-- what the text's top says of its written things -/
structure Wrt (K : Frag) (w : World) (mg : Str → Option Value) : Prop where
  sta : ∃ t, mg "NAME_STARTS" = some (.str staS t)
  nam : ∃ t, mg "NAME_SIGNS" = some (.str namS t)
  dig : ∃ t, mg "DIGITS" = some (.str digS t)
  cr : ∃ t, mg "CHOOSE_RANK" = some (.int 1 t)
  ar : ∃ t, mg "AHEAD_RANK" = some (.int 8 t)
  pr : ∃ t, mg "PLAIN_RANK" = some (.int 9 t)
  pls : ∃ p, mg "PLACE_SIGNS" = some (.ref p) ∧ ∀ H, SqT K H p (plW.map V.str)
  alls : ∃ p, mg "ALL_ARGUMENTS" = some (.ref p) ∧ ∀ H, SqT K H p (alW.map V.str)
  tps : ∃ p, mg "TWO_PART_SIGNS" = some (.ref p) ∧ ∀ H, SqT K H p (tpW.map V.str)
  rks : ∃ (d : Addr) (es : Array DictEntry) (n : Nat), mg "RANKS" = some (.ref d) ∧ KDict K w d es n ∧ ∀ s : Str, (isOp s = false → PySem.W.nsIn K d s = some none) ∧ (isOp s = true → ∃ t, PySem.W.nsIn K d s = some (some (.int (rk s : Nat) t)))
  ahs : ∃ (d : Addr) (es : Array DictEntry) (n : Nat), mg "AHEAD_SIGNS" = some (.ref d) ∧ KDict K w d es n ∧ (∃ t, PySem.W.nsIn K d "minus" = some (some (.str "-" t))) ∧ ∃ t, PySem.W.nsIn K d "no" = some (some (.str "!" t))
theorem glob_int {X : Cx} {x : Str} {c : Int} {pos : Pos} (hg : Gl X x) (hm : ∃ t, X.mg x = some (.int c t)) (hd : (x == ("__debug__" : Str)) = false := by decide) : PE X (.Name x pos) (tC (.int c)) := by
  obtain ⟨t, e⟩ := hm
  exact pe_glob hg e ⟨t, rfl⟩ hd
theorem small_line {n : Nat} (h : n ≤ 1000000) : n ≤ sizeLine := by
  rw [sizeLine_eq]
  omega
/-- a def that may raise -/
def HasX (P : Program) (w : World) (K : Frag) (mg : Str → Option Value) (base : Heap) (k : Nat) (x : Str) (ps : List Str) (sp : Sp) : Prop :=
  ∃ (f : Addr) (fd : FuncData), mg x = some (.ref f) ∧ PySem.W.keepIn K (.ref f) = true ∧ Binds K fd ps [] ∧ FnOk P w K mg base (L2.CX P w) k f fd ps sp
theorem hasX_of {P : Program} {w : World} {K : Frag} {mg : Str → Option Value} {base : Heap} {k : Nat} {x qual : Str} {st : Stmt} {f : Addr} {fd : FuncData} {ps : List Str} {sp : Sp} (F : Fun K x qual st f fd) (g : mg x = some (.ref f)) (b : Binds K fd ps []) (o : FnOk P w K mg base (L2.CX P w) k f fd ps sp) : HasX P w K mg base k x ps sp := ⟨f, fd, g, F.kp, b, o⟩
def HasM (P : Program) (w : World) (K : Frag) (mg : Str → Option Value) (base : Heap) (C : Addr) (k : Nat) (x : Str) (ps : List Str) (sp : Sp) : Prop :=
  ∃ (f : Addr) (fd : FuncData), Meth K C x f ∧ Binds K fd ps [] ∧ FnOk P w K mg base CX0 k f fd ps sp
def HasMX (P : Program) (w : World) (K : Frag) (mg : Str → Option Value) (base : Heap) (C : Addr) (k : Nat) (x : Str) (ps : List Str) (sp : Sp) : Prop :=
  ∃ (f : Addr) (fd : FuncData), Meth K C x f ∧ Binds K fd ps [] ∧ FnOk P w K mg base (L2.CX P w) k f fd ps sp
theorem pass_of {X : Cx} {E : XK} (tk : Takes X (fun cls d _ H => E cls d H)) : Passes (L2.CX X.prog X.w) X E := fun pins σ H s e s' I h => passAt tk σ pins H s e s' I h
/-! # names and places -/
def startS : Str := staS
def nameS : Str := namS
/-- the longest name at the beginning -/
def nameLen : List Nat → Nat
  | [] => 0
  | c :: r => if c ∈ cs startS then 1 + (r.takeWhile fun d => decide (d ∈ cs nameS)).length else 0
def isNameB (l : List Nat) : Bool := !l.isEmpty && nameLen l == l.length
def big : Nat := 100000
/-- a text in, a value out, nothing made that is kept -/
def spTxt (g : Str → V) : Sp := fun vs H Q _ => ∃ x : Str, vs = [.str x] ∧ x.length ≤ big ∧ ∀ H', Same H H' → Q (g x) H'
def isPlB (l : L) : Bool := inV (.str (st l)) (plW.map V.str) || (!l.isEmpty && l.head? != some 48 && l.all fun d => decide (d ∈ digC))
abbrev spNl : Sp := spTxt fun x => .int (nameLen (cs x))
abbrev spNn : Sp := spTxt fun x => .bl (isNameB (cs x))
abbrev spIp : Sp := spTxt fun x => .bl (isPlB (cs x))
section
variable {P : Program} {w : World} {K : Frag} {mg : Str → Option Value} {base : Heap}
theorem big_line {x : Str} (h : x.length ≤ big) : x.length ≤ sizeLine := by
  rw [sizeLine_eq]
  unfold big at h
  omega
theorem tw_le {p : Nat → Bool} : ∀ (r : List Nat), (r.takeWhile p).length ≤ r.length
  | [] => Nat.le_refl _
  | c :: r => by
    by_cases h : p c = true
    · rw [List.takeWhile_cons_of_pos h, List.length_cons, List.length_cons]
      exact Nat.succ_le_succ (tw_le r)
    · rw [List.takeWhile_cons_of_neg h]
      exact Nat.zero_le _
theorem tw_on {p : Nat → Bool} : ∀ (r : List Nat) (k : Nat) (c : Nat), r[k]? = some c → k ≤ (r.takeWhile p).length → p c = true → k + 1 ≤ (r.takeWhile p).length
  | [], k, c, h, _, _ => by cases h
  | d :: r, 0, c, h, _, hp => by
    have e : d = c := Option.some.inj h
    subst e
    rw [List.takeWhile_cons_of_pos hp, List.length_cons]
    omega
  | d :: r, k + 1, c, h, hk, hp => by
    by_cases hd : p d = true
    · rw [List.takeWhile_cons_of_pos hd, List.length_cons] at hk ⊢
      exact Nat.succ_le_succ (tw_on r k c h (by omega) hp)
    · rw [List.takeWhile_cons_of_neg hd] at hk
      exact absurd hk (by simp)
theorem tw_off {p : Nat → Bool} : ∀ (r : List Nat) (k : Nat), k ≤ (r.takeWhile p).length → (∀ c, r[k]? = some c → p c = false) → k = (r.takeWhile p).length
  | [], k, h, _ => by simpa using h
  | d :: r, 0, _, h => by
    have e := h d rfl
    rw [List.takeWhile_cons_of_neg (by rw [e]; decide)]
    rfl
  | d :: r, k + 1, hk, h => by
    by_cases hd : p d = true
    · rw [List.takeWhile_cons_of_pos hd, List.length_cons] at hk ⊢
      exact congrArg Nat.succ (tw_off r k (by omega) h)
    · rw [List.takeWhile_cons_of_neg hd] at hk
      exact absurd hk (by simp)
theorem cs_nil {x : Str} (h : cs x = []) : x = ("" : Str) := by
  obtain ⟨a⟩ := x
  have e : a = #[] := by
    apply Array.toList_inj.mp
    simpa using h
  subst e
  rfl
abbrev sNl : Stmt := top 11
abbrev nNl : List Str := ["text", "length"]
theorem scNl : FnScope nNl ["text"] (defScope sNl) := ⟨rfl, rfl, rfl, by decide +kernel, rfl, by decide +kernel, by decide +kernel⟩
theorem has_Nl {f : Addr} {fd : FuncData}  (F : Fun K "name_length" "name_length" sNl f fd) (g : mg "name_length" = some (.ref f)) (B : Blt mg) (W : Wrt K w mg)  :
    Has P w K mg base 1 "name_length" ["text"] (spNl) := by
  refine has_of F g (F.binds (ps := ["text"]) fun _ _ _ _ _ _ us hl => match us, hl with | [_], _ => rfl) (F.ok scNl (fun vs H Q E h => ?_) (fun cdv A outer s H vs Q E hr h => ?_))
  · obtain ⟨x, rfl, _⟩ := h
    rfl
  · refine ⟨_, (pss_cons (ps_if (PW.pt (pw_or (pt_cmpR op_eq (pv 0) pe_str (nomark _)) (pw_or1 (pt_cmpR op_notIn_sign (pe_ix ix_str (pv 0) pe_int (fun _ _ => rfl)) (glob_str (by rfl) W.sta) (by rfl))))) (pss_one (ps_ret pe_int)) pss_nil)
        (pss_cons (ps_set (i := 1) scNl.nd rfl (.inl rfl) pe_int)
        (pss_cons (ps_while PassesOwn.never (PW.pt (pw_and (pt_cmpR op_lt (pv 1) (pe_callB call_len (by rfl) B.len PySem.boot_len (pa_cons (pv 0) pa_nil)) (nomark _)) (pw_and1 (pt_cmpR op_in_sign (pe_ix ix_str (pv 0) (pv 1) (fun _ _ => rfl)) (glob_str (by rfl) W.nam) (by rfl))))) (pss_one (ps_aug (i := 1) scNl.nd rfl (.inl rfl) pe_int ip_add)))
        (pss_one (ps_ret (pv 1)))))), ?_⟩
    obtain ⟨x, rfl, hx, k⟩ := h
    have hz := big_line hx
    by_cases h0 : x = ("" : Str)
    · subst h0
      exact ⟨_, rfl, rfl, _, rfl, if_yes (by simp) (k H (Same.refl H))⟩
    · obtain ⟨c, r, hl⟩ : ∃ c r, cs x = c :: r := by
        cases e : cs x with
        | nil => exact absurd (cs_nil e) h0
        | cons c r => exact ⟨c, r, rfl⟩
      have k' : ∀ n, nameLen (c :: r) = n → Q (.int n) H := fun n e => by
        have z : Q (.int (nameLen (cs x))) H := k H (Same.refl H)
        rw [hl, e] at z
        exact z
      have ac : atI (cs x) 0 = some c := atI_nat (j := 0) (by rw [hl]; rfl)
      refine ⟨_, rfl, rfl, _, rfl, if_no (by simpa using h0) ⟨_, rfl, x, 0, c, rfl, rfl, hz, ac, c, startS, rfl, rfl, _, rfl, ?_⟩⟩
      by_cases hc : c ∈ cs startS
      · refine if_no (by simpa using hc) ?_
        have hnl : nameLen (c :: r) = 1 + (r.takeWhile fun d => decide (d ∈ cs nameS)).length := if_pos hc
        have lx : x.length = r.length + 1 := by
          rw [len_cs, hl]
          rfl
        refine while_by (fun σ H' => ∃ j : Nat, σ = [some (.str x), some (.int (1 + (j : Int)))] ∧ H' = H ∧ j ≤ (r.takeWhile fun d => decide (d ∈ cs nameS)).length) (fun σ H' => match σ with
            | [_, some (.int i)] => x.length - i.toNat
            | _ => 0) ⟨0, rfl, rfl, Nat.zero_le _⟩ ?_ ?_
        · rintro σ H' ⟨j, rfl, rfl, hj⟩
          have jl := Nat.le_trans hj (tw_le r)
          refine ⟨_, rfl, _, rfl, .str x, x.length, rfl, ⟨hz, rfl⟩, _, _, rfl, rfl, _, rfl, ?_⟩
          by_cases hlt : j < r.length
          · obtain ⟨d, hd⟩ : ∃ d, r[j]? = some d := ⟨_, List.getElem?_eq_getElem hlt⟩
            have ad : atI (cs x) (1 + (j : Int)) = some d := by
              have z : (cs x)[j + 1]? = some d := by
                rw [hl]
                simpa using hd
              have y := atI_nat z
              rw [show ((j + 1 : Nat) : Int) = 1 + (j : Int) by omega] at y
              exact y
            refine if_yes (by simp; omega) ⟨_, rfl, _, rfl, x, _, d, rfl, rfl, hz, ad, d, nameS, rfl, rfl, _, rfl, ?_⟩
            by_cases hn : d ∈ cs nameS
            · refine if_yes (by simpa using hn) ⟨_, rfl, _, _, rfl, rfl, ⟨j + 1, ?_, rfl, tw_on r j d hd hj (by simpa using hn)⟩, ?_⟩
              · show [some (V.str x), some (V.int (1 + (j : Int) + 1))] = [some (V.str x), some (V.int (1 + ((j + 1 : Nat) : Int)))]
                rw [show (1 + (j : Int) + 1) = 1 + ((j + 1 : Nat) : Int) by omega]
              · show x.length - (1 + (j : Int) + 1).toNat < x.length - (1 + (j : Int)).toNat
                omega
            · refine if_no (by simpa using hn) ⟨_, rfl, ?_⟩
              refine k' _ ?_
              have e := tw_off (p := fun d => decide (d ∈ cs nameS)) r j hj (fun c' hc' => by
                rw [hd] at hc'
                obtain rfl := Option.some.inj hc'
                simpa using hn)
              rw [hnl, ← e] <;> omega
          · refine if_no (by simp; omega) (if_no rfl ⟨_, rfl, ?_⟩)
            refine k' _ ?_
            have e := tw_off (p := fun d => decide (d ∈ cs nameS)) r j hj (fun c' hc' => by
              rw [List.getElem?_eq_none (by omega)] at hc'
              cases hc')
            rw [hnl, ← e] <;> omega
        · intro σ H' Q1 Q2 hq h
          obtain ⟨v, e1, v2, e2, y, n, e3, ln, i, j, e4, e5, b, e6, z⟩ := h
          refine ⟨v, e1, v2, e2, y, n, e3, ln, i, j, e4, e5, b, e6, ?_⟩
          cases b with
          | false => exact hq _ _ z
          | true =>
            obtain ⟨a1, a2, a3, a4, a5, a6, a7, a8, a9, b1, b2, b3, b4, b5, b6, b7, b8, z⟩ := z
            exact ⟨a1, a2, a3, a4, a5, a6, a7, a8, a9, b1, b2, b3, b4, b5, b6, b7, b8, hq _ _ z⟩
      · refine if_yes (by simpa using hc) ?_
        exact k' 0 (if_neg hc)
abbrev sNn : Stmt := top 12
abbrev nNn : List Str := ["text"]
theorem scNn : FnScope nNn ["text"] (defScope sNn) := ⟨rfl, rfl, rfl, by decide +kernel, rfl, by decide +kernel, by decide +kernel⟩
theorem has_Nn {f : Addr} {fd : FuncData}  (F : Fun K "is_name" "is_name" sNn f fd) (g : mg "is_name" = some (.ref f)) (B : Blt mg) (hNl : Has P w K mg base 1 "name_length" ["text"] (spNl)) :
    Has P w K mg base 2 "is_name" ["text"] (spNn) := by
  obtain ⟨fNl, dNl, gNl, kNl, bNl, GNl⟩ := hNl
  refine has_of F g (F.binds (ps := ["text"]) fun _ _ _ _ _ _ us hl => match us, hl with | [_], _ => rfl) (F.ok scNn (fun vs H Q E h => ?_) (fun cdv A outer s H vs Q E hr h => ?_))
  · obtain ⟨x, rfl, _⟩ := h
    rfl
  · refine ⟨_, (pss_one (ps_ret (pe_and (pe_cmpR op_ne (pv 0) pe_str (nomark _)) (pe_one (pe_cmpR op_eq (pe_call GNl hr rfl gNl kNl bNl .nil pass0 (pa_cons (pv 0) pa_nil)) (pe_callB call_len (by rfl) B.len PySem.boot_len (pa_cons (pv 0) pa_nil)) (nomark _)))))), ?_⟩
    obtain ⟨x, rfl, hx, k⟩ := h
    have hz := big_line hx
    refine ⟨_, rfl, rfl, _, rfl, ?_⟩
    have done : ∀ b H', isNameB (cs x) = b → Same H H' → Q (.bl b) H' := fun b H' e s => by
      have z : Q (.bl (isNameB (cs x))) H' := k H' s
      rw [e] at z
      exact z
    by_cases h0 : x = ("" : Str)
    · subst h0
      exact if_no (by simp) (done false H (by decide +kernel) (Same.refl H))
    · refine if_yes (by simpa using h0) ⟨_, rfl, x, rfl, hx, fun H1 s1 => ⟨_, rfl, .str x, x.length, rfl, ⟨hz, rfl⟩, rfl, ?_⟩⟩
      refine done _ H1 ?_ s1
      have ne : (cs x).isEmpty = false := by
        cases e : cs x with
        | nil => exact absurd (cs_nil e) h0
        | cons c r => rfl
      unfold isNameB
      rw [ne, len_cs x]
      show (!false && nameLen (cs x) == (cs x).length) = decide (V.int (nameLen (cs x) : Int) = V.int ((cs x).length : Int))
      by_cases q : nameLen (cs x) = (cs x).length
      · rw [q, decide_eq_true rfl]
        simp
      · have q2 : ¬ ((nameLen (cs x) : Int) = ((cs x).length : Int)) := by omega
        rw [beq_eq_false_iff_ne.mpr q, decide_eq_false (fun z => q2 (V.int.inj z))]
        rfl
abbrev sIp : Stmt := top 13
abbrev nIp : List Str := ["text", "sign"]
theorem scIp : FnScope nIp ["text"] (defScope sIp) := ⟨rfl, rfl, rfl, by decide +kernel, rfl, by decide +kernel, by decide +kernel⟩
theorem has_Ip {f : Addr} {fd : FuncData}  (F : Fun K "is_place" "is_place" sIp f fd) (g : mg "is_place" = some (.ref f)) (B : Blt mg) (W : Wrt K w mg)  :
    Has P w K mg base 1 "is_place" ["text"] (spIp) := by
  refine has_of F g (F.binds (ps := ["text"]) fun _ _ _ _ _ _ us hl => match us, hl with | [_], _ => rfl) (F.ok scIp (fun vs H Q E h => ?_) (fun cdv A outer s H vs Q E hr h => ?_))
  · obtain ⟨x, rfl, _⟩ := h
    rfl
  · obtain ⟨pP, gP, sP⟩ := W.pls
    refine ⟨_, (pss_cons (ps_if (pt_cmpR op_in_seq (pv 0) (pe_glob (v := .ref pP) (by rfl) gP rfl) (by rfl)) (pss_one (ps_ret pe_bl)) pss_nil)
        (pss_one (ps_ret (pe_and (pe_cmpR op_ne (pv 0) pe_str (nomark _)) (pe_and (pe_cmpR op_ne (pe_ix ix_str (pv 0) pe_int (fun _ _ => rfl)) pe_str (nomark _)) (pe_one (pe_callB (cr_all rfl) (by rfl) B.all (by decide +kernel) (pa_cons (pe_lc (own := [("sign", 1)]) (g := gName 1) (tt := tYes) rfl scIp.nd (pi_str (pv 0)) (blkOk_by (N := nIp) (sc := defScope sIp) (by decide +kernel)) (fun _ _ _ _ _ => pg_name (i := 1) scIp.nd rfl (.inl rfl)) (fun _ _ _ _ _ => pts_nil) (fun _ _ _ _ _ => (pe_cmpR op_in_sign (pv 1) (glob_str (by rfl) W.dig) (by rfl)))) pa_nil)))))))), ?_⟩
    obtain ⟨x, rfl, hx, k⟩ := h
    have hz := big_line hx
    have done : ∀ b H', isPlB (cs x) = b → Same H H' → Q (.bl b) H' := fun b H' e s => by
      have z : Q (.bl (isPlB (cs x))) H' := k H' s
      rw [e] at z
      exact z
    have e0 : isPlB (cs x) = (inV (.str x) (plW.map V.str) || (!(cs x).isEmpty && (cs x).head? != some 48 && (cs x).all fun d => decide (d ∈ digC))) := by
      unfold isPlB
      rw [st_cs]
    refine ⟨_, rfl, pP, plW.map V.str, rfl, .inr (sP H), rfl, by decide +kernel, _, rfl, ?_⟩
    dsimp only
    rw [if_neg (by decide : ¬ false = true)]
    refine if_by (fun e => ?_) (fun e => ?_)
    · exact done _ H (by rw [e0, e]; rfl) (Same.refl H)
    rw [e, Bool.false_or] at e0
    refine ⟨_, rfl, rfl, _, rfl, ?_⟩
    by_cases h0 : x = ("" : Str)
    · subst h0
      exact if_no (by simp) (done false H (by rw [e0]; rfl) (Same.refl H))
    · obtain ⟨c, r, hl⟩ : ∃ c r, cs x = c :: r := by
        cases e : cs x with
        | nil => exact absurd (cs_nil e) h0
        | cons c r => exact ⟨c, r, rfl⟩
      have ac : atI (cs x) 0 = some c := atI_nat (j := 0) (by rw [hl]; rfl)
      refine if_yes (by simpa using h0) ⟨_, rfl, x, 0, c, rfl, rfl, hz, ac, rfl, _, rfl, ?_⟩
      have q48 : ∀ c : Nat, decide (V.str (⟨#[c]⟩ : Str) = V.str ("0" : Str)) = (c == 48) := fun c => by
        by_cases e : c = 48
        · subst e
          decide +kernel
        · rw [beq_eq_false_iff_ne.mpr e]
          refine decide_eq_false fun z => e ?_
          have y : cs (⟨#[c]⟩ : Str) = cs ("0" : Str) := congrArg cs (V.str.inj z)
          have w : cs ("0" : Str) = [48] := by decide +kernel
          rw [w] at y
          exact (List.cons.inj y).1
      refine if_by (fun e => ?_) (fun e => ?_)
      · have ec : (c == 48) = false := by rw [q48] at e; simpa using e
        refine ⟨_, rfl, x, rfl, fun D hD => lc_it walk_str (fun i H' => H' = L2.upd H D (.lst (((cs x).take i).map fun d => V.bl (decide (d ∈ cs digS))))) (by simp) (fun _ _ _ _ => trivial) (fun i v H' H2 hi e y => ?_) (fun H' e => ?_)⟩
        · obtain ⟨rfl, d, hd, rfl⟩ := y
          subst e
          have hd' : (cs x)[i]? = some d := by simpa using hd
          refine ⟨rfl, _, rfl, d, digS, rfl, rfl, _, upd_same, ?_, ?_⟩
          · rw [List.length_map, List.length_take]
            have := len_cs x
            rw [sizeLine_eq] at hz ⊢
            unfold big at hx
            omega
          · rw [upd_upd, take_snoc hd', List.map_append]
            rfl
        · subst e
          have e2 : (cs x).take x.cps.size = cs x := List.take_of_length_le (by simp)
          rw [e2]
          refine ⟨D, (cs x).map fun d => decide (d ∈ cs digS), rfl, SqL.of (by rw [upd_same, List.map_map]; rfl), ?_⟩
          refine done _ _ ?_ (same_upd hD)
          rw [e0, cs_dig, List.all_map, hl]
          show (!false && (some c != some 48) && _) = _
          rw [show (some c != some 48) = true by simpa using ec]
          rfl
      · have ec : c = 48 := by rw [q48] at e; simpa using e
        refine done false H ?_ (Same.refl H)
        rw [e0, hl, ec]
        rfl
end
end Qb
end PySem
namespace PySem
namespace Qb
open PySem.W PySem.Calls PyProof.Rows L2
/-! # is_sum, rank -/
def Sm.ok : Sm → Bool
  | .num n => decide (0 ≤ n)
  | .of w => isNameB (cs w) || (isPlB (cs w) && !inV (.str w) (alW.map V.str))
  | .one s a => (s == "minus" || s == "no") && a.ok
  | .two s a b => isOp s && (a.ok && b.ok)
  | .three s a b c => (s == "choose") && (a.ok && (b.ok && c.ok))
/-- kinds that are none of the others' -/
def Sm.fine : Sm → Prop
  | .num _ => True
  | .of w => w.length ≤ big
  | .one s a => s ≠ "number" ∧ s ≠ "of" ∧ a.fine
  | .two s a b => a.fine ∧ b.fine
  | .three s a b c => a.fine ∧ b.fine ∧ c.fine
def spIs (K : Frag) : Nat → Sp
  | 0 => fun _ _ _ _ => False
  | n + 1 => fun vs H Q _ => ∃ (v : V) (t : Sm), vs = [v] ∧ Dp K H v t.d ∧ t.ht ≤ n ∧ t.fine ∧ ∀ H', Same H H' → Q (.bl t.ok) H'
theorem dp_num {K : Frag} {H : Hp} {v : V} {n : Int} (h : Dp K H v (Sm.num n).d) : ∃ a, v = .ref a ∧ SqT K H a [.str "number", .int n] := by
  obtain ⟨a, x, rfl, hq, hx⟩ := pc_two h
  cases hx
  exact ⟨a, rfl, hq⟩
theorem dp_of {K : Frag} {H : Hp} {v : V} {w : Str} (h : Dp K H v (Sm.of w).d) : ∃ a, v = .ref a ∧ SqT K H a [.str "of", .str w] := dp_two h
theorem pc_four {K : Frag} {H : Hp} {v : V} {k : Str} {d e f : PyData} (h : Dp K H v (.tuple [.str k, d, e, f])) : ∃ a x y z, v = .ref a ∧ SqT K H a [.str k, x, y, z] ∧ Dp K H x d ∧ Dp K H y e ∧ Dp K H z f := by
  obtain ⟨a, xs, rfl, hq, all⟩ := dp_tup h
  cases all with
  | cons h1 t1 =>
    obtain rfl := dp_str h1
    cases t1 with
    | cons h2 t2 =>
      cases t2 with
      | cons h3 t3 =>
        cases t3 with
        | cons h4 t4 =>
          cases t4
          exact ⟨a, _, _, _, rfl, hq, h2, h3, h4⟩
theorem all_hit {K : Frag} {n : Nat} {is : List Nat} {t : TS} {rest : List (List Nat × PatR × TS)} {a : Addr} {ys : List V} {D : Ends} {σ : L2.St} {H : Hp} (hq : SqT K H a ys) (h : t D (setAll σ is ys) H) (hn : n = ys.length := by rfl) :
    tCases ((is, rSeq K n (List.replicate ys.length rCap), t) :: rest) (.ref a) D σ H := by
  subst hn
  refine ⟨a, _, rfl, hq, fun ne => absurd rfl ne, fun _ => ?_⟩
  exact each_caps (Q := fun o' => match o' with | none => tCases rest (.ref a) D σ H | some more => t D (setAll σ is more) H) h
theorem len_miss {K : Frag} {n : Nat} {is : List Nat} {rs : List PatR} {t : TS} {rest : List (List Nat × PatR × TS)} {a : Addr} {ys : List V} {D : Ends} {σ : L2.St} {H : Hp} (hq : SqT K H a ys) (hn : ys.length ≠ n) (h : tCases rest (.ref a) D σ H) :
    tCases ((is, rSeq K n rs, t) :: rest) (.ref a) D σ H := ⟨_, _, rfl, hq, fun _ => h, fun z => (hn z).elim⟩
theorem mn_hit {s : Str} (h : s = "minus" ∨ s = "no") : Hit (rOr [rLit "minus", rLit "no"]) s := by
  rcases h with rfl | rfl
  · exact hit_or hit_lit
  · exact hit_or2 (miss_lit (by decide +kernel)) (hit_or hit_lit)
theorem mn_miss {s : Str} (h : ¬(s = "minus" ∨ s = "no")) : Miss (rOr [rLit "minus", rLit "no"]) s :=
  miss_or (miss_lit fun z => h (.inl z)) (miss_or (miss_lit fun z => h (.inr z)) miss_or0)
section
variable {P : Program} {w : World} {K : Frag} {mg : Str → Option Value} {base : Heap}
abbrev sIs : Stmt := top 21
abbrev nIs : List Str := ["tree", "number", "name", "part", "test", "one", "other", "sign"]
theorem scIs : FnScope nIs ["tree"] (defScope sIs) := ⟨rfl, rfl, rfl, by decide +kernel, rfl, by decide +kernel, by decide +kernel⟩
theorem ok_Is {f : Addr} {fd : FuncData} (F : Fun K "is_sum" "is_sum" sIs f fd) (gIs : mg "is_sum" = some (.ref f)) (bIs : Binds K fd ["tree"] []) (B : Blt mg) (W : Wrt K w mg) (hIp : Has P w K mg base 1 "is_place" ["text"] (spIp)) (hNn : Has P w K mg base 2 "is_name" ["text"] (spNn)) :
    ∀ n, FnOk P w K mg base CX0 (n + 3) f fd ["tree"] (spIs K n)
  | 0 => F.ok scIs (fun vs H Q E h => h.elim) (fun cdv A outer s H vs Q E hr h => h.elim)
  | n + 1 => by
    have GIs := ok_Is F gIs bIs B W hIp hNn n
    have kIs := F.kp
    obtain ⟨fIp, dIp, gIp, kIp, bIp, GIp⟩ := hIp
    obtain ⟨fNn, dNn, gNn, kNn, bNn, GNn⟩ := hNn
    obtain ⟨pA, gA, sA⟩ := W.alls
    obtain ⟨dR, eR, nR, gR, DR, ns⟩ := W.rks
    refine F.ok scIs (fun vs H Q E h => ?_) (fun cdv A outer s H vs Q E hr h => ?_)
    · obtain ⟨v, t, rfl, _⟩ := h
      rfl
    · refine ⟨_, (pss_cons (ps_match (pv 0)
        (pcs_cons (is := [1]) scIs.nd (pp_seq rfl (pps_cons pp_lit (pps_cons pp_cap pps_nil))) (.cons ⟨rfl, .inl rfl, .inr rfl⟩ .nil)
          (pss_one (ps_ret (pe_cmpR op_ge (pv 1) pe_int (nomark _))))
        (pcs_cons (is := [2]) scIs.nd (pp_seq rfl (pps_cons pp_lit (pps_cons pp_cap pps_nil))) (.cons ⟨rfl, .inl rfl, .inr rfl⟩ .nil)
          (pss_one (ps_ret (pe_or (pe_call GNn (hr.mono (by omega)) rfl gNn kNn bNn .nil pass0 (pa_cons (pv 2) pa_nil)) (pe_one (pe_and (pe_call GIp (hr.mono (by omega)) rfl gIp kIp bIp .nil pass0 (pa_cons (pv 2) pa_nil)) (pe_one (pe_cmpR op_notIn_seq (pv 2) (pe_glob (v := .ref pA) (by rfl) gA rfl) (by rfl))))))))
        (pcs_cons (is := [3]) scIs.nd (pp_seq rfl (pps_cons (pp_or (pf_cons pp_lit (pf_cons pp_lit pf_nil))) (pps_cons pp_cap pps_nil))) (.cons ⟨rfl, .inl rfl, .inr rfl⟩ .nil)
          (pss_one (ps_ret (pe_call GIs (hr.mono (by omega)) rfl gIs kIs bIs .nil pass0 (pa_cons (pv 3) pa_nil))))
        (pcs_cons (is := [4, 5, 6]) scIs.nd (pp_seq rfl (pps_cons pp_lit (pps_cons pp_cap (pps_cons pp_cap (pps_cons pp_cap pps_nil))))) (.cons ⟨rfl, .inl rfl, .inr rfl⟩ (.cons ⟨rfl, .inl rfl, .inr rfl⟩ (.cons ⟨rfl, .inl rfl, .inr rfl⟩ .nil)))
          (pss_one (ps_ret (pe_and (pe_call GIs (hr.mono (by omega)) rfl gIs kIs bIs .nil pass0 (pa_cons (pv 4) pa_nil)) (pe_and (pe_call GIs (hr.mono (by omega)) rfl gIs kIs bIs .nil pass0 (pa_cons (pv 5) pa_nil)) (pe_one (pe_call GIs (hr.mono (by omega)) rfl gIs kIs bIs .nil pass0 (pa_cons (pv 6) pa_nil)))))))
        (pcs_cons (is := [7, 5, 6]) scIs.nd (pp_seq rfl (pps_cons pp_cap (pps_cons pp_cap (pps_cons pp_cap pps_nil)))) (.cons ⟨rfl, .inl rfl, .inr rfl⟩ (.cons ⟨rfl, .inl rfl, .inr rfl⟩ (.cons ⟨rfl, .inl rfl, .inr rfl⟩ .nil)))
          (pss_one (ps_ret (pe_and (pe_cmpR (op_in_kd DR) (pv 7) (pe_glob (v := .ref dR) (by rfl) gR rfl) (by rfl)) (pe_and (pe_call GIs (hr.mono (by omega)) rfl gIs kIs bIs .nil pass0 (pa_cons (pv 5) pa_nil)) (pe_one (pe_call GIs (hr.mono (by omega)) rfl gIs kIs bIs .nil pass0 (pa_cons (pv 6) pa_nil))))))) pcs_nil))))))
        (pss_one (ps_ret pe_bl))), ?_⟩
      obtain ⟨v, t, rfl, hd, hh, hf, k⟩ := h
      have k0 : Q (.bl t.ok) H := k H (Same.refl H)
      -- a part is asked
      have sub : ∀ {m : Nat} {u : Sm} {x : V} {H1 : Hp} {Q' : VK} {E' : XK}, u.ht + 1 ≤ n + 1 → n + 1 = m → u.fine → Dp K H1 x u.d → (∀ H2, Same H1 H2 → Q' (.bl u.ok) H2) → u.ht + 1 ≤ n → spIs K n ([x] ++ []) H1 Q' E' := by
        intro m u x H1 Q' E' _ _ uf ud q hn
        obtain ⟨n', rfl⟩ : ∃ n', n = n' + 1 := ⟨n - 1, by omega⟩
        exact ⟨x, u, rfl, ud, by omega, uf, q⟩
      cases t with
      | num i =>
        obtain ⟨a, rfl, hq⟩ := dp_num hd
        exact ⟨_, rfl, case_hit hq hit_lit ⟨_, rfl, _, _, rfl, rfl, k0⟩⟩
      | of x =>
        obtain ⟨a, rfl, hq⟩ := dp_of hd
        refine ⟨_, rfl, case_miss hq ml (case_hit hq hit_lit ⟨_, rfl, x, rfl, hf, fun H1 s1 => ⟨_, rfl, ?_⟩⟩)⟩
        have z := k H1 s1
        have e0 : (Sm.of x).ok = (isNameB (cs x) || (isPlB (cs x) && !inV (.str x) (alW.map V.str))) := rfl
        cases e : isNameB (cs x) with
        | true =>
          rw [e0, e] at z
          exact if_yes rfl z
        | false =>
          refine if_no rfl ⟨_, rfl, x, rfl, hf, fun H2 s2 => ⟨_, rfl, ?_⟩⟩
          have z := k H2 (s1.trans s2)
          cases e2 : isPlB (cs x) with
          | false =>
            rw [e0, e, e2] at z
            exact if_no rfl z
          | true =>
            rw [e0, e, e2] at z
            exact if_yes rfl ⟨_, rfl, pA, alW.map V.str, rfl, .inr (sA H2), rfl, by decide +kernel, z⟩
      | one s a =>
        obtain ⟨p, x, rfl, hq, hx⟩ := pc_two hd
        have ha : a.ht + 1 ≤ n := by
          have : 1 + a.ht ≤ n := hh
          omega
        refine ⟨_, rfl, case_miss hq (.inl (miss_lit hf.1)) (case_miss hq (.inl (miss_lit hf.2.1)) ?_)⟩
        by_cases c : s = "minus" ∨ s = "no"
        · refine case_hit hq (mn_hit c) ⟨_, rfl, sub (m := n + 1) (by omega) rfl hf.2.2 hx (fun H1 s1 => ?_) ha⟩
          have z := k H1 s1
          have e0 : (Sm.one s a).ok = ((s == "minus" || s == "no") && a.ok) := rfl
          rw [e0, show (s == "minus" || s == "no") = true by rcases c with rfl | rfl <;> rfl] at z
          exact z
        · refine case_miss hq (.inl (mn_miss c)) (len_miss hq (by simp) (len_miss hq (by simp) ?_))
          have e0 : (Sm.one s a).ok = ((s == "minus" || s == "no") && a.ok) := rfl
          rw [e0, show (s == "minus" || s == "no") = false by
            rw [beq_eq_false_iff_ne.mpr fun z => c (.inl z), beq_eq_false_iff_ne.mpr fun z => c (.inr z)]
            rfl] at k0
          exact k0
      | two s a b =>
        obtain ⟨p, x, y, rfl, hq, hx, hy⟩ := pc_three hd
        have hab : 1 + max a.ht b.ht ≤ n := hh
        refine ⟨_, rfl, len_miss hq (by simp) (len_miss hq (by simp) (len_miss hq (by simp) (len_miss hq (by simp) (all_hit hq ?_))))⟩
        have e0 : (Sm.two s a b).ok = (isOp s && (a.ok && b.ok)) := rfl
        refine ⟨_, rfl, ?_⟩
        cases e : isOp s with
        | false =>
          rw [e0, e] at k0
          exact ⟨s, none, rfl, rfl, (ns s).1 e, _, rfl, if_no rfl k0⟩
        | true =>
          obtain ⟨t, et⟩ := (ns s).2 e
          refine ⟨s, _, rfl, rfl, et, _, rfl, if_yes rfl ⟨_, rfl, sub (m := n + 1) (by omega) rfl hf.1 hx (fun H1 s1 => ⟨_, rfl, ?_⟩) (by omega)⟩⟩
          cases ea : a.ok with
          | false =>
            have z := k H1 s1
            rw [e0, e, ea] at z
            exact if_no rfl z
          | true =>
            refine if_yes rfl ⟨_, rfl, sub (m := n + 1) (by omega) rfl hf.2 (dp_same s1 hy) (fun H2 s2 => ?_) (by omega)⟩
            have z := k H2 (s1.trans s2)
            rw [e0, e, ea] at z
            exact z
      | three s a b c =>
        obtain ⟨p, x, y, z, rfl, hq, hx, hy, hz⟩ := pc_four hd
        have habc : 1 + max a.ht (max b.ht c.ht) ≤ n := hh
        refine ⟨_, rfl, len_miss hq (by simp) (len_miss hq (by simp) (len_miss hq (by simp) ?_))⟩
        have e0 : (Sm.three s a b c).ok = ((s == "choose") && (a.ok && (b.ok && c.ok))) := rfl
        by_cases c0 : s = "choose"
        · subst c0
          refine case_hit hq hit_lit ⟨_, rfl, sub (m := n + 1) (by omega) rfl hf.1 hx (fun H1 s1 => ⟨_, rfl, ?_⟩) (by omega)⟩
          have e1 : (Sm.three "choose" a b c).ok = (a.ok && (b.ok && c.ok)) := rfl
          cases ea : a.ok with
          | false =>
            have z := k H1 s1
            rw [e1, ea] at z
            exact if_no rfl z
          | true =>
            refine if_yes rfl ⟨_, rfl, sub (m := n + 1) (by omega) rfl hf.2.1 (dp_same s1 hy) (fun H2 s2 => ⟨_, rfl, ?_⟩) (by omega)⟩
            cases eb : b.ok with
            | false =>
              have z := k H2 (s1.trans s2)
              rw [e1, ea, eb] at z
              exact if_no rfl z
            | true =>
              refine if_yes rfl ⟨_, rfl, sub (m := n + 1) (by omega) rfl hf.2.2 (dp_same (s1.trans s2) hz) (fun H3 s3 => ?_) (by omega)⟩
              have z := k H3 ((s1.trans s2).trans s3)
              rw [e1, ea, eb] at z
              exact z
        · refine case_miss hq (.inl (miss_lit c0)) (len_miss hq (by simp) ?_)
          rw [e0, beq_eq_false_iff_ne.mpr c0] at k0
          exact k0
end
end Qb
end PySem
namespace PySem
namespace Qb
open PySem.W PySem.Calls PyProof.Rows L2
/-! # rank, sum_text, part_text -/
theorem cs_app (x y : Str) : cs (x ++ y) = cs x ++ cs y := by
  show (x.cps ++ y.cps).toList = _
  simp
theorem str_of {x : Str} {l : L} (h : cs x = l) : x = st l := by rw [← h, st_cs]
theorem name_nm (l : L) : isNameB l = isNm l := by
  cases l with
  | nil => rfl
  | cons c r =>
    show (nameLen (c :: r) == r.length + 1) = (decide (c ∈ staC) && r.all fun d => decide (d ∈ namC))
    have en : nameLen (c :: r) = if c ∈ cs startS then 1 + (r.takeWhile fun d => decide (d ∈ cs nameS)).length else 0 := rfl
    rw [en]
    by_cases h : c ∈ staC
    · have h' : c ∈ cs startS := h
      rw [if_pos h', decide_eq_true h, Bool.true_and]
      have key : ∀ (r : L), (1 + (r.takeWhile fun d => decide (d ∈ cs nameS)).length == r.length + 1) = r.all fun d => decide (d ∈ namC) := by
        intro r
        induction r with
        | nil => rfl
        | cons d r ih =>
          by_cases hd : d ∈ namC
          · have p : decide (d ∈ cs nameS) = true := decide_eq_true hd
            rw [List.takeWhile_cons_of_pos (p := fun d => decide (d ∈ cs nameS)) p, List.all_cons, decide_eq_true hd, Bool.true_and, ← ih, List.length_cons, List.length_cons]
            by_cases q : 1 + (r.takeWhile fun d => decide (d ∈ cs nameS)).length = r.length + 1
            · rw [q, beq_self_eq_true, beq_iff_eq.mpr (by omega)]
            · rw [beq_eq_false_iff_ne.mpr q, beq_eq_false_iff_ne.mpr (by omega)]
          · have p : ¬ decide (d ∈ cs nameS) = true := fun z => hd (of_decide_eq_true z)
            rw [List.takeWhile_cons_of_neg (p := fun d => decide (d ∈ cs nameS)) p, List.all_cons, decide_eq_false hd, Bool.false_and]
            exact beq_eq_false_iff_ne.mpr (by simp)
      exact key r
    · have h' : ¬ c ∈ cs startS := h
      rw [if_neg h', decide_eq_false h, Bool.false_and]
      exact beq_eq_false_iff_ne.mpr (by omega)
theorem at0 {x : V} {xs : List V} : atI (x :: xs) 0 = some x := atI_nat (j := 0) rfl
theorem inV_iff (x : Str) (ws : List Str) : inV (.str x) (ws.map V.str) = decide (x ∈ ws) := by
  induction ws with
  | nil => rfl
  | cons w ws ih =>
    have e : inV (.str x) ((w :: ws).map V.str) = ((w == x) || inV (.str x) (ws.map V.str)) := rfl
    rw [e, ih]
    by_cases h : x = w
    · subst h
      simp
    · rw [beq_eq_false_iff_ne.mpr (Ne.symm h), Bool.false_or]
      simp [h]
theorem ok_nice : ∀ {t : Sm}, t.ok = true → t.nice
  | .num n, h => of_decide_eq_true (p := 0 ≤ n) h
  | .of w, h => by
    have h' : (isNameB (cs w) || (isPlB (cs w) && !inV (.str w) (alW.map V.str))) = true := h
    rw [name_nm] at h'
    cases e : isNm (cs w) with
    | true => exact .inl e
    | false =>
      rw [e, Bool.false_or, Bool.and_eq_true, inV_iff] at h'
      obtain ⟨h1, h2⟩ := h'
      refine .inr ⟨e, ?_⟩
      unfold isPlB at h1
      rw [st_cs, inV_iff, Bool.or_eq_true] at h1
      rcases h1 with h1 | h1
      · have m := of_decide_eq_true h1
        have n : w ∉ alW := by simpa using h2
        have key : ∀ w ∈ plW, w ∉ alW → cs w = [48] ∨ cs w = [35] ∨ cs w = [63] := by decide +kernel
        rcases key w m n with z | z | z
        · exact .inr (.inr ⟨by rw [z]; simp, fun c m => by rw [z] at m; rw [List.mem_singleton.mp m]; decide, fun _ => by rw [z]; rfl⟩)
        · exact .inl z
        · exact .inr (.inl z)
      · rw [Bool.and_eq_true, Bool.and_eq_true, List.all_eq_true] at h1
        obtain ⟨⟨a, b⟩, c⟩ := h1
        refine .inr (.inr ⟨fun z => ?_, fun x m => of_decide_eq_true (c x m), fun z => ?_⟩)
        · rw [z] at a
          cases a
        · rw [z] at b
          simp at b
  | .one s a, h => by
    have h' : ((s == "minus" || s == "no") && a.ok) = true := h
    rw [Bool.and_eq_true, Bool.or_eq_true, beq_iff_eq, beq_iff_eq] at h'
    exact ⟨h'.1, ok_nice h'.2⟩
  | .two s a b, h => by
    have h' : (isOp s && (a.ok && b.ok)) = true := h
    rw [Bool.and_eq_true, Bool.and_eq_true] at h'
    exact ⟨h'.1, ok_nice h'.2.1, ok_nice h'.2.2⟩
  | .three s a b c, h => by
    have h' : ((s == "choose") && (a.ok && (b.ok && c.ok))) = true := h
    rw [Bool.and_eq_true, Bool.and_eq_true, Bool.and_eq_true, beq_iff_eq] at h'
    exact ⟨h'.1, ok_nice h'.2.1, ok_nice h'.2.2.1, ok_nice h'.2.2.2⟩
def Sm.kd : Sm → Str
  | .num _ => "number"
  | .of _ => "of"
  | .one s _ => s
  | .two s _ _ => s
  | .three s _ _ _ => s
theorem dp_kd {K : Frag} {H : Hp} {v : V} {t : Sm} (h : Dp K H v t.d) : ∃ a ys, v = .ref a ∧ SqT K H a (.str t.kd :: ys) := by
  cases t with
  | num n => obtain ⟨a, e, hq⟩ := dp_num h; exact ⟨a, _, e, hq⟩
  | of w => obtain ⟨a, e, hq⟩ := dp_of h; exact ⟨a, _, e, hq⟩
  | one s a => obtain ⟨p, x, e, hq, _⟩ := pc_two h; exact ⟨p, _, e, hq⟩
  | two s a b => obtain ⟨p, x, y, e, hq, _⟩ := pc_three h; exact ⟨p, _, e, hq⟩
  | three s a b c => obtain ⟨p, x, y, z, e, hq, _⟩ := pc_four h; exact ⟨p, _, e, hq⟩
def spRk (K : Frag) : Sp := fun vs H Q _ => ∃ (v : V) (t : Sm), vs = [v] ∧ Dp K H v t.d ∧ t.nice ∧ ∀ H', Same H H' → Q (.int (t.rank : Nat)) H'
def spSt (K : Frag) : Nat → Sp
  | 0 => fun _ _ _ _ => False
  | n + 1 => fun vs H Q _ => ∃ (v : V) (t : Sm), vs = [v] ∧ Dp K H v t.d ∧ t.ht ≤ n ∧ t.nice ∧ t.shw.length ≤ 90000 ∧ t.good ∧ ∀ H', Same H H' → Q (.str (st t.shw)) H'
def spPt (K : Frag) : Nat → Sp
  | 0 => fun _ _ _ _ => False
  | n + 1 => fun vs H Q _ => ∃ (v : V) (t : Sm) (l : Nat), vs = [v, .int l] ∧ Dp K H v t.d ∧ t.ht ≤ n ∧ t.nice ∧ t.shw.length ≤ 90000 ∧ t.good ∧ ∀ H', Same H H' → Q (.str (st (par (decide (t.rank < l)) t.shw))) H'
theorem par_len (b : Bool) (l : L) : l.length ≤ (par b l).length ∧ (par b l).length ≤ l.length + 2 := by
  cases b
  · exact ⟨Nat.le_refl _, Nat.le_add_right _ _⟩
  · show l.length ≤ (40 :: (l ++ [41])).length ∧ (40 :: (l ++ [41])).length ≤ _
    simp
    omega
theorem op_kinds {s : Str} (h : isOp s = true) : s ∉ (["number", "of"] : List Str) ∧ s ∉ (["minus", "no"] : List Str) ∧ s ≠ "choose" := by
  obtain ⟨c, m⟩ := op_tpk h
  have key : ∀ p ∈ tpk, p.1 ∉ (["number", "of"] : List Str) ∧ p.1 ∉ (["minus", "no"] : List Str) ∧ p.1 ≠ "choose" := by decide +kernel
  exact key _ m
section
variable {P : Program} {w : World} {K : Frag} {mg : Str → Option Value} {base : Heap}
abbrev sRk : Stmt := top 22
abbrev nRk : List Str := ["tree"]
theorem scRk : FnScope nRk ["tree"] (defScope sRk) := ⟨rfl, rfl, rfl, by decide +kernel, rfl, by decide +kernel, by decide +kernel⟩
theorem has_Rk {f : Addr} {fd : FuncData}  (F : Fun K "rank" "rank" sRk f fd) (g : mg "rank" = some (.ref f)) (B : Blt mg) (W : Wrt K w mg) :
    Has P w K mg base 1 "rank" ["tree"] (spRk K) := by
  refine has_of F g (F.binds (ps := ["tree"]) fun _ _ _ _ _ _ us hl => match us, hl with | [_], _ => rfl) (F.ok scRk (fun vs H Q E h => ?_) (fun cdv A outer s H vs Q E hr h => ?_))
  · obtain ⟨v, t, rfl, _⟩ := h
    rfl
  · obtain ⟨dR, eR, nR, gR, DR, ns⟩ := W.rks
    refine ⟨_, (pss_cons (ps_if (pt_cmpR op_in_seq (pe_ix ix_tup (pv 0) pe_int (fun _ _ => rfl)) (pe_tup (pa_cons pe_str (pa_cons pe_str pa_nil))) (by rfl)) (pss_one (ps_ret (glob_int (by rfl) W.pr))) pss_nil)
        (pss_cons (ps_if (pt_cmpR op_in_seq (pe_ix ix_tup (pv 0) pe_int (fun _ _ => rfl)) (pe_tup (pa_cons pe_str (pa_cons pe_str pa_nil))) (by rfl)) (pss_one (ps_ret (glob_int (by rfl) W.ar))) pss_nil)
        (pss_cons (ps_if (pt_cmpR op_eq (pe_ix ix_tup (pv 0) pe_int (fun _ _ => rfl)) pe_str (nomark _)) (pss_one (ps_ret (glob_int (by rfl) W.cr))) pss_nil)
        (pss_one (ps_ret (pe_ix ix_kdict (pe_glob (v := .ref dR) (by rfl) gR rfl) (pe_ix ix_tup (pv 0) pe_int (fun _ _ => rfl)) (fun _ _ => rfl))))))), ?_⟩
    obtain ⟨v, t, rfl, hd, hn, k⟩ := h
    obtain ⟨a, ys, rfl, hq⟩ := dp_kd hd
    refine ⟨_, rfl, a, _, 0, _, rfl, rfl, hq, at0, (by decide : 2 ≤ sizeLine), fun T nT => ?_⟩
    have s1 := same_upd (o := .tup [.str "number", .str "of"]) nT
    have hq1 := sqT_same s1 hq
    refine ⟨T, (["number", "of"] : List Str).map V.str, rfl, .inr (SqT.of upd_same), rfl, by decide +kernel, _, rfl, ?_⟩
    dsimp only
    rw [if_neg (by decide : ¬ false = true), inV_iff]
    cases t with
    | num n => exact if_yes (show decide (("number" : Str) ∈ (["number", "of"] : List Str)) = true by decide +kernel) (k _ s1)
    | of w => exact if_yes (show decide (("of" : Str) ∈ (["number", "of"] : List Str)) = true by decide +kernel) (k _ s1)
    | one s b =>
      have hs : s ∉ (["number", "of"] : List Str) ∧ s ∈ (["minus", "no"] : List Str) := by
        rcases hn.1 with rfl | rfl
        · exact ⟨by decide +kernel, by decide +kernel⟩
        · exact ⟨by decide +kernel, by decide +kernel⟩
      refine if_no (decide_eq_false hs.1) ⟨_, rfl, a, _, 0, _, rfl, rfl, hq1, at0, (by decide : 2 ≤ sizeLine), fun T2 nT2 => ?_⟩
      refine ⟨T2, (["minus", "no"] : List Str).map V.str, rfl, .inr (SqT.of upd_same), rfl, by decide +kernel, _, rfl, ?_⟩
      dsimp only
      rw [if_neg (by decide : ¬ false = true), inV_iff]
      exact if_yes (decide_eq_true hs.2) (k _ (s1.trans (same_upd nT2)))
    | two s b c =>
      obtain ⟨h1, h2, h3⟩ := op_kinds hn.1
      refine if_no (decide_eq_false h1) ⟨_, rfl, a, _, 0, _, rfl, rfl, hq1, at0, (by decide : 2 ≤ sizeLine), fun T2 nT2 => ?_⟩
      have s2 := s1.trans (same_upd (o := .tup [.str "minus", .str "no"]) nT2)
      refine ⟨T2, (["minus", "no"] : List Str).map V.str, rfl, .inr (SqT.of upd_same), rfl, by decide +kernel, _, rfl, ?_⟩
      dsimp only
      rw [if_neg (by decide : ¬ false = true), inV_iff]
      obtain ⟨tk, et⟩ := (ns s).2 hn.1
      refine if_no (decide_eq_false h2) ⟨_, rfl, a, _, 0, _, rfl, rfl, sqT_same s2 hq, at0, rfl, _, rfl, if_no (decide_eq_false fun z => h3 (V.str.inj z)) ⟨_, rfl, a, _, 0, _, rfl, rfl, sqT_same s2 hq, at0, ?_⟩⟩
      exact ⟨dR, s, .int (rk s : Nat), rfl, rfl, ⟨eR, nR, _, DR.at_, DR.lit, et, ⟨tk, rfl⟩⟩, k _ s2⟩
    | three s b c e =>
      obtain rfl := hn.1
      refine if_no (show decide (("choose" : Str) ∈ (["number", "of"] : List Str)) = false by decide +kernel) ⟨_, rfl, a, _, 0, _, rfl, rfl, hq1, at0, (by decide : 2 ≤ sizeLine), fun T2 nT2 => ?_⟩
      have s2 := s1.trans (same_upd (o := .tup [.str "minus", .str "no"]) nT2)
      refine ⟨T2, (["minus", "no"] : List Str).map V.str, rfl, .inr (SqT.of upd_same), rfl, by decide +kernel, _, rfl, ?_⟩
      dsimp only
      rw [if_neg (by decide : ¬ false = true), inV_iff]
      exact if_no (show decide (("choose" : Str) ∈ (["minus", "no"] : List Str)) = false by decide +kernel) ⟨_, rfl, a, _, 0, _, rfl, rfl, sqT_same s2 hq, at0, rfl, _, rfl, if_yes (show decide (V.str ("choose" : Str) = V.str ("choose" : Str)) = true by decide +kernel) (k _ s2)⟩
end
end Qb
end PySem
namespace PySem
namespace Qb
open PySem.W PySem.Calls PyProof.Rows L2
/-! # sums told as texts -/
theorem len_st (l : L) : (st l).length = l.length := by rw [len_cs, cs_st]
theorem line_small {n : Nat} (h : n ≤ 100000) : n ≤ sizeLine := by
  rw [sizeLine_eq]
  omega
theorem int_log {i : Int} (h0 : 0 ≤ i) (h : i < 10 ^ 80) : i.natAbs.log2 < 1920 := by
  obtain ⟨n, rfl⟩ : ∃ n : Nat, i = n := ⟨i.toNat, (Int.toNat_of_nonneg h0).symm⟩
  rw [Int.natAbs_natCast]
  have h' : n < 10 ^ 80 := by exact_mod_cast h
  by_cases z : n = 0
  · subst z; decide
  · exact (Nat.log2_lt z).mpr (Nat.lt_trans h' (by decide +kernel))
def spSh (K : Frag) (n : Nat) : Sp := fun vs H Q _ => ∃ (v : V) (t : Sm), vs = [v] ∧ Dp K H v t.d ∧ t.ht + 1 ≤ n ∧ t.ok = true ∧ t.fine ∧ t.shw.length ≤ 90000 ∧ t.good ∧ ∀ H', Same H H' → Q (.str (st t.shw)) H'
section
variable {P : Program} {w : World} {K : Frag} {mg : Str → Option Value} {base : Heap}
abbrev sPt : Stmt := top 38
abbrev nPt : List Str := ["tree", "least"]
theorem scPt : FnScope nPt ["tree", "least"] (defScope sPt) := ⟨rfl, rfl, rfl, by decide +kernel, rfl, by decide +kernel, by decide +kernel⟩
theorem ok_Pt {f : Addr} {fd : FuncData} (F : Fun K "part_text" "part_text" sPt f fd) {k : Nat} (h1k : 1 ≤ k) {fSt : Addr} {dSt : FuncData} (gSt : mg "sum_text" = some (.ref fSt)) (kSt : PySem.W.keepIn K (.ref fSt) = true) (bSt : Binds K dSt ["tree"] []) (hRk : Has P w K mg base 1 "rank" ["tree"] (spRk K)) :
    ∀ n, FnOk P w K mg base CX0 k fSt dSt ["tree"] (spSt K n) → FnOk P w K mg base CX0 (k + 1) f fd ["tree", "least"] (spPt K n)
  | 0, _ => F.ok scPt (fun vs H Q E h => h.elim) (fun cdv A outer s H vs Q E hr h => h.elim)
  | n + 1, GSt => by
    obtain ⟨fRk, dRk, gRk, kRk, bRk, GRk⟩ := hRk
    refine F.ok scPt (fun vs H Q E h => ?_) (fun cdv A outer s H vs Q E hr h => ?_)
    · obtain ⟨v, t, l, rfl, _⟩ := h
      rfl
    · refine ⟨_, (pss_cons (ps_if (pt_cmpR op_lt (pe_call GRk (hr.mono (by omega)) rfl gRk kRk bRk .nil pass0 (pa_cons (pv 0) pa_nil)) (pv 1) (nomark _)) (pss_one (ps_ret (pe_op op_add_str (pe_op op_add_str pe_str (pe_call GSt (hr.mono (by omega)) rfl gSt kSt bSt .nil pass0 (pa_cons (pv 0) pa_nil))) pe_str))) pss_nil)
        (pss_one (ps_ret (pe_call GSt (hr.mono (by omega)) rfl gSt kSt bSt .nil pass0 (pa_cons (pv 0) pa_nil))))), ?_⟩
      obtain ⟨v, t, l, rfl, hd, hh, hn, hl, hg, k⟩ := h
      refine ⟨_, rfl, v, t, rfl, hd, hn, fun H1 s1 => ⟨_, rfl, _, _, rfl, rfl, _, rfl, if_by (fun e => ?_) (fun e => ?_)⟩⟩
      · have c : t.rank < l := by
          have := of_decide_eq_true e
          omega
        refine ⟨_, rfl, v, t, rfl, dp_same s1 hd, hh, hn, hl, hg, fun H2 s2 => ?_⟩
        have z := k _ (s1.trans s2)
        rw [decide_eq_true c] at z
        refine ⟨_, _, rfl, rfl, ?_, _, _, rfl, rfl, ?_, ?_⟩
        · rw [len_st]
          exact line_small (by show 1 + _ ≤ _; omega)
        · rw [show (("(" : Str) ++ st t.shw).length = 1 + t.shw.length by rw [len_cs, cs_app, cs_st, List.length_append]; rfl]
          exact line_small (by show _ + 1 ≤ _; omega)
        · have e2 : ("(" : Str) ++ st t.shw ++ (")" : Str) = st (par true t.shw) := str_of (by
            rw [cs_app, cs_app, cs_st]
            have a1 : cs ("(" : Str) = [40] := by decide +kernel
            have a2 : cs (")" : Str) = [41] := by decide +kernel
            rw [a1, a2]
            rfl)
          rw [e2]
          exact z
      · have c : ¬ t.rank < l := fun z => by
          have := of_decide_eq_false e
          omega
        refine ⟨_, rfl, v, t, rfl, dp_same s1 hd, hh, hn, hl, hg, fun H2 s2 => ?_⟩
        have z := k _ (s1.trans s2)
        rw [decide_eq_false c] at z
        exact z
abbrev sSt : Stmt := top 37
abbrev nSt : List Str := ["tree", "number", "name", "part", "test", "one", "other", "middle", "sign", "least"]
theorem scSt : FnScope nSt ["tree"] (defScope sSt) := ⟨rfl, rfl, rfl, by decide +kernel, rfl, by decide +kernel, by decide +kernel⟩
theorem ok_St {f fPt : Addr} {fd dPt : FuncData} (F : Fun K "sum_text" "sum_text" sSt f fd) (gSt : mg "sum_text" = some (.ref f)) (bSt : Binds K fd ["tree"] []) (FP : Fun K "part_text" "part_text" sPt fPt dPt) (gPt : mg "part_text" = some (.ref fPt)) (bPt : Binds K dPt ["tree", "least"] []) (B : Blt mg) (W : Wrt K w mg)
    (hNn : Has P w K mg base 2 "is_name" ["text"] (spNn)) (hRk : Has P w K mg base 1 "rank" ["tree"] (spRk K)) : ∀ n, FnOk P w K mg base CX0 (2 * n + 3) f fd ["tree"] (spSt K n)
  | 0 => F.ok scSt (fun vs H Q E h => h.elim) (fun cdv A outer s H vs Q E hr h => h.elim)
  | n + 1 => by
    have GSt := ok_St F gSt bSt FP gPt bPt B W hNn hRk n
    have GPt := ok_Pt FP (by omega) gSt F.kp bSt hRk n GSt
    have kSt := F.kp
    have kPt := FP.kp
    obtain ⟨fNn, dNn, gNn, kNn, bNn, GNn⟩ := hNn
    obtain ⟨fRk, dRk, gRk, kRk, bRk, GRk⟩ := hRk
    obtain ⟨dA, eA, nA, gA, DA, ⟨tm, nm⟩, ⟨tn, nn⟩⟩ := W.ahs
    refine F.ok scSt (fun vs H Q E h => ?_) (fun cdv A outer s H vs Q E hr h => ?_)
    · obtain ⟨v, t, rfl, _⟩ := h
      rfl
    · refine ⟨_, (pss_one (ps_match (pv 0)
        (pcs_cons (is := [1]) scSt.nd (pp_seq rfl (pps_cons pp_lit (pps_cons pp_cap pps_nil))) (.cons ⟨rfl, .inl rfl, .inr rfl⟩ .nil)
          (pss_one (ps_ret (pe_callTy call_str_int (by rfl) B.str (by decide +kernel) (pa_cons (pv 1) pa_nil))))
        (pcs_cons (is := [2]) scSt.nd (pp_seq rfl (pps_cons pp_lit (pps_cons pp_cap pps_nil))) (.cons ⟨rfl, .inl rfl, .inr rfl⟩ .nil)
          (pss_one (ps_ret (pe_ifExp (pt_val (pe_call GNn (hr.mono (by omega)) rfl gNn kNn bNn .nil pass0 (pa_cons (pv 2) pa_nil))) (pv 2) (pe_op op_add_str pe_str (pv 2)))))
        (pcs_cons (is := [3]) scSt.nd (pp_seq rfl (pps_cons (pp_or (pf_cons pp_lit (pf_cons pp_lit pf_nil))) (pps_cons pp_cap pps_nil))) (.cons ⟨rfl, .inl rfl, .inr rfl⟩ .nil)
          (pss_one (ps_ret (pe_op op_add_str (pe_ix ix_kdict (pe_glob (v := .ref dA) (by rfl) gA rfl) (pe_ix ix_tup (pv 0) pe_int (fun _ _ => rfl)) (fun _ _ => rfl)) (pe_call GPt (hr.mono (by omega)) rfl gPt kPt bPt .nil pass0 (pa_cons (pv 3) (pa_cons (glob_int (by rfl) W.ar) pa_nil))))))
        (pcs_cons (is := [4, 5, 6]) scSt.nd (pp_seq rfl (pps_cons pp_lit (pps_cons pp_cap (pps_cons pp_cap (pps_cons pp_cap pps_nil))))) (.cons ⟨rfl, .inl rfl, .inr rfl⟩ (.cons ⟨rfl, .inl rfl, .inr rfl⟩ (.cons ⟨rfl, .inl rfl, .inr rfl⟩ .nil)))
          (pss_cons (ps_set (i := 7) scSt.nd rfl (.inl rfl) (pe_call GSt (hr.mono (by omega)) rfl gSt kSt bSt .nil pass0 (pa_cons (pv 5) pa_nil)))
          (pss_one (ps_ret (pe_op op_add_str (pe_op op_add_str (pe_op op_add_str (pe_op op_add_str (pe_call GPt (hr.mono (by omega)) rfl gPt kPt bPt .nil pass0 (pa_cons (pv 4) (pa_cons (pe_op op_add (glob_int (by rfl) W.cr) pe_int) pa_nil))) pe_str) (pv 7)) pe_str) (pe_call GPt (hr.mono (by omega)) rfl gPt kPt bPt .nil pass0 (pa_cons (pv 6) (pa_cons (glob_int (by rfl) W.cr) pa_nil)))))))
        (pcs_cons (is := [8, 5, 6]) scSt.nd (pp_seq rfl (pps_cons pp_cap (pps_cons pp_cap (pps_cons pp_cap pps_nil)))) (.cons ⟨rfl, .inl rfl, .inr rfl⟩ (.cons ⟨rfl, .inl rfl, .inr rfl⟩ (.cons ⟨rfl, .inl rfl, .inr rfl⟩ .nil)))
          (pss_cons (ps_set (i := 9) scSt.nd rfl (.inl rfl) (pe_call GRk (hr.mono (by omega)) rfl gRk kRk bRk .nil pass0 (pa_cons (pv 0) pa_nil)))
          (pss_one (ps_ret (pe_op op_add_str (pe_op op_add_str (pe_op op_add_str (pe_op op_add_str (pe_call GPt (hr.mono (by omega)) rfl gPt kPt bPt .nil pass0 (pa_cons (pv 5) (pa_cons (pv 9) pa_nil))) pe_str) (pv 8)) pe_str) (pe_call GPt (hr.mono (by omega)) rfl gPt kPt bPt .nil pass0 (pa_cons (pv 6) (pa_cons (pe_op op_add (pv 9) pe_int) pa_nil))))))) pcs_nil))))))), ?_⟩
      obtain ⟨v, t, rfl, hd, hh, hn, hl, hg, k⟩ := h
      have k0 : Q (.str (st t.shw)) H := k H (Same.refl H)
      have part : ∀ {u : Sm} {x : V} {l : Nat} {i : Int} {H1 : Hp} {Q' : VK} {E' : XK}, i = (l : Int) → Dp K H1 x u.d → u.ht + 1 ≤ n → u.nice → u.shw.length ≤ 90000 → u.good → (∀ H2, Same H1 H2 → Q' (.str (st (par (decide (u.rank < l)) u.shw))) H2) → spPt K n ([x, .int i] ++ []) H1 Q' E' := by
        intro u x l i H1 Q' E' ei ud hu un ul ug q
        obtain ⟨n', rfl⟩ : ∃ n', n = n' + 1 := ⟨n - 1, by omega⟩
        subst ei
        exact ⟨x, u, l, rfl, ud, by omega, un, ul, ug, q⟩
      have whole : ∀ {u : Sm} {x : V} {H1 : Hp} {Q' : VK} {E' : XK}, Dp K H1 x u.d → u.ht + 1 ≤ n → u.nice → u.shw.length ≤ 90000 → u.good → (∀ H2, Same H1 H2 → Q' (.str (st u.shw)) H2) → spSt K n ([x] ++ []) H1 Q' E' := by
        intro u x H1 Q' E' ud hu un ul ug q
        obtain ⟨n', rfl⟩ : ∃ n', n = n' + 1 := ⟨n - 1, by omega⟩
        exact ⟨x, u, rfl, ud, by omega, un, ul, ug, q⟩
      have a32 : cs (" " : Str) = [32] := by decide +kernel
      have l1 : ∀ (x : L) (y : Str), (st x ++ y).length = x.length + (cs y).length := fun x y => by rw [len_cs, cs_app, cs_st, List.length_append]
      cases t with
      | num i =>
        obtain ⟨a, rfl, hq⟩ := dp_num hd
        refine ⟨_, rfl, case_hit hq hit_lit ⟨_, rfl, i, rfl, int_log hg.1 hg.2, ?_⟩⟩
        have e : st (Sm.num i).shw = Str.ofString (toString i) := st_cs _
        rw [e] at k0
        exact k0
      | of x =>
        obtain ⟨a, rfl, hq⟩ := dp_of hd
        have es : (Sm.of x).shw = if isNm (cs x) then cs x else 36 :: cs x := rfl
        have lx : x.length ≤ 90000 := by
          rw [es] at hl
          rw [len_cs]
          split at hl
          · exact hl
          · rw [List.length_cons] at hl
            omega
        refine ⟨_, rfl, case_miss hq ml (case_hit hq hit_lit ⟨_, rfl, x, rfl, Nat.le_trans lx (by decide), fun H1 s1 => ⟨_, rfl, ?_⟩⟩)⟩
        have z := k H1 s1
        rw [es, ← name_nm] at z
        cases e : isNameB (cs x) with
        | true =>
          rw [e, if_pos rfl, st_cs] at z
          exact if_yes rfl ⟨_, rfl, z⟩
        | false =>
          rw [e, if_neg (by decide)] at z
          refine if_no rfl ⟨_, rfl, _, _, rfl, rfl, line_small (by show 1 + _ ≤ _; omega), ?_⟩
          have e2 : ("$" : Str) ++ x = st (36 :: cs x) := str_of (by
            rw [cs_app, show cs ("$" : Str) = [36] by decide +kernel]
            rfl)
          rw [e2]
          exact z
      | one s a =>
        obtain ⟨p, x, rfl, hq, hx⟩ := pc_two hd
        have ha : a.ht + 1 ≤ n := by
          have : 1 + a.ht ≤ n := hh
          omega
        have es : (Sm.one s a).shw = aheadC s ++ par (decide (a.rank < 8)) a.shw := rfl
        have la : (par (decide (a.rank < 8)) a.shw).length ≤ 90000 := by
          rw [es, List.length_append] at hl
          omega
        have la2 := Nat.le_trans (par_len (decide (a.rank < 8)) a.shw).1 la
        rcases hn.1 with rfl | rfl
        · refine ⟨_, rfl, case_miss hq ml (case_miss hq ml (case_hit hq (mn_hit (.inl rfl)) ⟨_, rfl, p, _, 0, _, rfl, rfl, hq, at0, ⟨dA, "minus", .str "-", rfl, rfl, ⟨eA, nA, _, DA.at_, DA.lit, nm, ⟨tm, rfl⟩⟩, _, rfl, part (l := 8) rfl hx ha hn.2 la2 hg.2 fun H1 s1 => ?_⟩⟩))⟩
          refine ⟨_, _, rfl, rfl, ?_, ?_⟩
          · rw [len_st]
            exact line_small (by show 1 + _ ≤ _; omega)
          · have z := k H1 s1
            rw [es] at z
            have e2 : ("-" : Str) ++ st (par (decide (a.rank < 8)) a.shw) = st (aheadC "minus" ++ par (decide (a.rank < 8)) a.shw) := str_of (by
              rw [cs_app, cs_st, show cs ("-" : Str) = [45] by decide +kernel]
              rfl)
            rw [e2]
            exact z
        · refine ⟨_, rfl, case_miss hq ml (case_miss hq ml (case_hit hq (mn_hit (.inr rfl)) ⟨_, rfl, p, _, 0, _, rfl, rfl, hq, at0, ⟨dA, "no", .str "!", rfl, rfl, ⟨eA, nA, _, DA.at_, DA.lit, nn, ⟨tn, rfl⟩⟩, _, rfl, part (l := 8) rfl hx ha hn.2 la2 hg.2 fun H1 s1 => ?_⟩⟩))⟩
          refine ⟨_, _, rfl, rfl, ?_, ?_⟩
          · rw [len_st]
            exact line_small (by show 1 + _ ≤ _; omega)
          · have z := k H1 s1
            rw [es] at z
            have e2 : ("!" : Str) ++ st (par (decide (a.rank < 8)) a.shw) = st (aheadC "no" ++ par (decide (a.rank < 8)) a.shw) := str_of (by
              rw [cs_app, cs_st, show cs ("!" : Str) = [33] by decide +kernel]
              rfl)
            rw [e2]
            exact z
      | two s a b =>
        obtain ⟨p, x, y, rfl, hq, hx, hy⟩ := pc_three hd
        have hab : 1 + max a.ht b.ht ≤ n := hh
        have es : (Sm.two s a b).shw = par (decide (a.rank < rk s)) a.shw ++ 32 :: (cs s ++ 32 :: par (decide (b.rank < rk s + 1)) b.shw) := rfl
        have lab : (par (decide (a.rank < rk s)) a.shw).length + (cs s).length + (par (decide (b.rank < rk s + 1)) b.shw).length + 2 ≤ 90000 := by
          rw [es] at hl
          simp only [List.length_append, List.length_cons] at hl
          omega
        have la := (par_len (decide (a.rank < rk s)) a.shw).1
        have lb := (par_len (decide (b.rank < rk s + 1)) b.shw).1
        refine ⟨_, rfl, len_miss hq (by simp) (len_miss hq (by simp) (len_miss hq (by simp) (len_miss hq (by simp) (all_hit hq ?_))))⟩
        refine ⟨_, rfl, .ref p, .two s a b, rfl, hd, hn, fun H1 s1 => ?_⟩
        refine ⟨_, rfl, _, rfl, part (l := rk s) rfl (dp_same s1 hx) (by omega) hn.2.1 (by omega) hg.2.1 fun H2 s2 => ?_⟩
        refine ⟨_, _, rfl, rfl, ?_, _, rfl, _, _, rfl, rfl, ?_, _, _, rfl, rfl, ?_, ?_⟩
        · rw [len_st]
          exact line_small (by show _ + 1 ≤ _; omega)
        · rw [l1, a32]
          exact line_small (by rw [len_cs]; show _ + 1 + _ ≤ _; omega)
        · rw [len_cs, cs_app, cs_app, cs_st, a32, List.length_append, List.length_append]
          exact line_small (by show _ + 1 + _ + 1 ≤ _; omega)
        refine ⟨_, rfl, _, rfl, _, _, rfl, rfl, part (l := rk s + 1) rfl (dp_same (s1.trans s2) hy) (by omega) hn.2.2 (by omega) hg.2.2 fun H3 s3 => ?_⟩
        refine ⟨_, _, rfl, rfl, ?_, ?_⟩
        · rw [len_cs, cs_app, cs_app, cs_app, cs_st, a32, len_st]
          simp only [List.length_append]
          exact line_small (by show _ + 1 + _ + 1 + _ ≤ _; omega)
        · have z := k H3 ((s1.trans s2).trans s3)
          have e2 : st (par (decide (a.rank < rk s)) a.shw) ++ (" " : Str) ++ s ++ (" " : Str) ++ st (par (decide (b.rank < rk s + 1)) b.shw) = st (Sm.two s a b).shw := str_of (by
            rw [cs_app, cs_app, cs_app, cs_app, cs_st, cs_st, a32, es]
            simp)
          rw [e2]
          exact z
      | three s a b c =>
        obtain ⟨p, x, y, z, rfl, hq, hx, hy, hz⟩ := pc_four hd
        have habc : 1 + max a.ht (max b.ht c.ht) ≤ n := hh
        obtain rfl := hn.1
        have es : (Sm.three "choose" a b c).shw = par (decide (a.rank < 2)) a.shw ++ 32 :: 63 :: 32 :: (b.shw ++ 32 :: 58 :: 32 :: par (decide (c.rank < 1)) c.shw) := rfl
        have lab : (par (decide (a.rank < 2)) a.shw).length + b.shw.length + (par (decide (c.rank < 1)) c.shw).length + 6 ≤ 90000 := by
          rw [es] at hl
          simp only [List.length_append, List.length_cons] at hl
          omega
        have la := (par_len (decide (a.rank < 2)) a.shw).1
        have lc := (par_len (decide (c.rank < 1)) c.shw).1
        have a63 : cs (" ? " : Str) = [32, 63, 32] := by decide +kernel
        have a58 : cs (" : " : Str) = [32, 58, 32] := by decide +kernel
        refine ⟨_, rfl, len_miss hq (by simp) (len_miss hq (by simp) (len_miss hq (by simp) (case_hit hq hit_lit ?_)))⟩
        refine ⟨_, rfl, whole hy (by omega) hn.2.2.1 (by omega) hg.2.2.1 fun H1 s1 => ?_⟩
        refine ⟨_, rfl, _, _, rfl, rfl, part (l := 2) (i := 1 + 1) rfl (dp_same s1 hx) (by omega) hn.2.1 (by omega) hg.2.1 fun H2 s2 => ?_⟩
        refine ⟨_, _, rfl, rfl, ?_, _, rfl, _, _, rfl, rfl, ?_, _, _, rfl, rfl, ?_, ?_⟩
        · rw [len_st]
          exact line_small (by show _ + 3 ≤ _; omega)
        · rw [l1, a63, len_st]
          exact line_small (by show _ + 3 + _ ≤ _; omega)
        · rw [len_cs, cs_app, cs_app, cs_st, cs_st, a63, List.length_append, List.length_append]
          exact line_small (by show _ + 3 + _ + 3 ≤ _; omega)
        refine ⟨_, rfl, part (l := 1) rfl (dp_same (s1.trans s2) hz) (by omega) hn.2.2.2 (by omega) hg.2.2.2 fun H3 s3 => ?_⟩
        refine ⟨_, _, rfl, rfl, ?_, ?_⟩
        · rw [len_cs, cs_app, cs_app, cs_app, cs_st, cs_st, a63, a58, len_st]
          simp only [List.length_append]
          exact line_small (by show _ + 3 + _ + 3 + _ ≤ _; omega)
        · have z := k H3 ((s1.trans s2).trans s3)
          have e2 : st (par (decide (a.rank < 2)) a.shw) ++ (" ? " : Str) ++ st b.shw ++ (" : " : Str) ++ st (par (decide (c.rank < 1)) c.shw) = st (Sm.three "choose" a b c).shw := str_of (by
            rw [cs_app, cs_app, cs_app, cs_app, cs_st, cs_st, cs_st, a63, a58, es]
            simp)
          rw [e2]
          exact z
abbrev sSh : Stmt := top 36
abbrev nSh : List Str := ["tree"]
theorem scSh : FnScope nSh ["tree"] (defScope sSh) := ⟨rfl, rfl, rfl, by decide +kernel, rfl, by decide +kernel, by decide +kernel⟩
theorem ok_Sh {f fIs fSt : Addr} {fd dIs dSt : FuncData} (F : Fun K "show_sum" "show_sum" sSh f fd) {n : Nat} (gIs : mg "is_sum" = some (.ref fIs)) (kIs : PySem.W.keepIn K (.ref fIs) = true) (bIs : Binds K dIs ["tree"] []) (GIs : FnOk P w K mg base CX0 (n + 3) fIs dIs ["tree"] (spIs K n))
    (gSt : mg "sum_text" = some (.ref fSt)) (kSt : PySem.W.keepIn K (.ref fSt) = true) (bSt : Binds K dSt ["tree"] []) (GSt : FnOk P w K mg base CX0 (2 * n + 3) fSt dSt ["tree"] (spSt K n)) : FnOk P w K mg base CX0 (2 * n + 4) f fd ["tree"] (spSh K n) := by
  refine F.ok scSh (fun vs H Q E h => ?_) (fun cdv A outer s H vs Q E hr h => ?_)
  · obtain ⟨v, t, rfl, _⟩ := h
    rfl
  · refine ⟨_, (pss_cons (ps_if (pt_not (pt_val (pe_call GIs (hr.mono (by omega)) rfl gIs kIs bIs .nil pass0 (pa_cons (pv 0) pa_nil)))) pss_never pss_nil)
        (pss_one (ps_ret (pe_call GSt (hr.mono (by omega)) rfl gSt kSt bSt .nil pass0 (pa_cons (pv 0) pa_nil))))), ?_⟩
    obtain ⟨v, t, rfl, hd, hh, ho, hf, hl, hg, k⟩ := h
    obtain ⟨n', rfl⟩ : ∃ n', n = n' + 1 := ⟨n - 1, by omega⟩
    refine ⟨_, rfl, v, t, rfl, hd, by omega, hf, fun H1 s1 => ⟨_, rfl, ?_⟩⟩
    rw [ho]
    refine if_no rfl ⟨_, rfl, v, t, rfl, dp_same s1 hd, by omega, ok_nice ho, hl, hg, fun H2 s2 => k H2 (s1.trans s2)⟩
end
end Qb
end PySem
namespace PySem
namespace Qb
open PySem.W PySem.Calls PyProof.Rows L2
/-! # the scanner -/
structure Txt (K : PySem.W.Frag) (mg : Str → Option Value) (C : Addr) : Prop where
  cl : Cls K C
  nT : NoAttr K C "text"
  nW : NoAttr K C "whole"
  nA : NoAttr K C "at"
  nE : NoAttr K C "word_end"
  mgC : mg "Scanner" = some (.ref C)
def fl (x y : Str) (i : Nat) : List (Str × V) := [("text", .str x), ("whole", .str y), ("at", .int (i : Nat)), ("word_end", .int (-1))]
theorem fl_at (x y : Str) (i j : Nat) : putF ("at" : Str) (.int (j : Nat)) (fl x y i) = fl x y j := by
  show (if ("text" : Str) = "at" then _ else (("text" : Str), V.str x) :: (if ("whole" : Str) = "at" then _ else (("whole" : Str), V.str y) :: (if ("at" : Str) = "at" then (("at" : Str), V.int (j : Nat)) :: [(("word_end" : Str), V.int (-1))] else _))) = _
  rw [if_neg (by decide +kernel), if_neg (by decide +kernel), if_pos rfl]
  rfl
theorem fl_text (x y : Str) (i : Nat) : (fl x y i).lookup ("text" : Str) = some (.str x) := rfl
theorem fl_whole (x y : Str) (i : Nat) : (fl x y i).lookup ("whole" : Str) = some (.str y) := rfl
theorem fl_atv (x y : Str) (i : Nat) : (fl x y i).lookup ("at" : Str) = some (.int (i : Nat)) := rfl
/-- at p: the scanner of the text x, r lies ahead -/
def Sc (C : Addr) (H : Hp) (p : Addr) (x y : Str) (r : L) : Prop := ∃ (i : Nat) (dx : Addr), H p = some (.ins C dx (fl x y i)) ∧ (cs x).drop i = r ∧ i ≤ x.length ∧ x.length ≤ 90000
/-- nothing but p has changed -/
def Mv (p : Addr) (H H' : Hp) : Prop := Same (hide H p) (hide H' p)
theorem Mv.refl {p : Addr} {H : Hp} : Mv p H H := Same.refl _
theorem Mv.trans {p : Addr} {H H' H'' : Hp} (a : Mv p H H') (b : Mv p H' H'') : Mv p H H'' := Same.trans a b
theorem Mv.same {p : Addr} {H H' : Hp} (s : Same H H') : Mv p H H' := hide_mono s
theorem Mv.put {p : Addr} {H : Hp} {o : HO} : Mv p H (L2.upd H p o) := hide_upd
theorem Sc.same {C p : Addr} {H H' : Hp} {x y : Str} {r : L} (h : Sc C H p x y r) (s : Same H H') : Sc C H' p x y r := by
  obtain ⟨i, dx, h1, h2⟩ := h
  exact ⟨i, dx, s _ _ h1, h2⟩
theorem Sc.ne {C p T : Addr} {H : Hp} {x y : Str} {r : L} (h : Sc C H p x y r) (n : H T = none) : T ≠ p := fun e => by
  obtain ⟨i, dx, h1, _⟩ := h
  rw [e, h1] at n
  cases n
theorem Sc.len {C p : Addr} {H : Hp} {x y : Str} {r : L} (h : Sc C H p x y r) : r.length ≤ 90000 := by
  obtain ⟨i, dx, h1, h2, h3, h4⟩ := h
  rw [← h2, List.length_drop, ← len_cs]
  omega
def RaisesU (E : XK) (CU : Addr) (y : Str) (H : Hp) : Prop := ∀ d, H d = none → E (.ref CU) (some d) (L2.upd H d (.xd [(("value" : Str), .str y)]))
def seesB (m : Str) (r : L) : Bool := (cs m).isPrefixOf r
def oneB (S : Str) (r : L) : Bool := match r with
  | [] => false
  | c :: _ => decide (c ∈ cs S)
def spSe (C : Addr) : Sp := fun vs H Q _ => ∃ (p : Addr) (x y m : Str) (r : L), vs = [.ref p, .str m] ∧ Sc C H p x y r ∧ Q (.bl (seesB m r)) H
def spSo (C : Addr) : Sp := fun vs H Q _ => ∃ (p : Addr) (x y m : Str) (r : L), vs = [.ref p, .str m] ∧ Sc C H p x y r ∧ Q (.bl (oneB m r)) H
def spAe (C : Addr) : Sp := fun vs H Q _ => ∃ (p : Addr) (x y : Str) (r : L), vs = [.ref p] ∧ Sc C H p x y r ∧ Q (.bl r.isEmpty) H
def spTa (C : Addr) : Sp := fun vs H Q _ => ∃ (p : Addr) (x y m : Str) (r : L), vs = [.ref p, .str m] ∧ Sc C H p x y r ∧ m.length ≤ 1000 ∧
  (seesB m r = true → ∀ H', Mv p H H' → Sc C H' p x y (r.drop (cs m).length) → Q (.bl true) H') ∧ (seesB m r = false → Q (.bl false) H)
def spNe (C CU : Addr) : Sp := fun vs H Q E => ∃ (p : Addr) (x y m : Str) (r : L), vs = [.ref p, .str m] ∧ Sc C H p x y r ∧ m.length ≤ 1000 ∧
  (seesB m r = true → ∀ H', Mv p H H' → Sc C H' p x y (r.drop (cs m).length) → Q .non H') ∧ (seesB m r = false → RaisesU E CU y H)
def spFa (C CU : Addr) : Sp := fun vs H Q E => ∃ (p : Addr) (x y : Str) (r : L), vs = [.ref p] ∧ Sc C H p x y r ∧ RaisesU E CU y H
def spRo (C : Addr) : Sp := fun vs H Q _ => ∃ (p : Addr) (x y m : Str) (r : L), vs = [.ref p, .str m] ∧ Sc C H p x y r ∧
  ∀ H', Mv p H H' → Sc C H' p x y (r.dropWhile fun c => decide (c ∈ cs m)) → Q (.str (st (r.takeWhile fun c => decide (c ∈ cs m)))) H'
def spSc (C : Addr) : Sp := fun vs H Q _ => ∃ (p dx : Addr) (x y : Str), vs = [.ref p, .str x, .str y] ∧ H p = some (.ins C dx []) ∧ x.length ≤ 90000 ∧
  ∀ H', Mv p H H' → Sc C H' p x y (cs x) → Q .non H'
theorem starts_at {x m : Str} {i : Nat} (hi : i ≤ x.length) : Txt.startswith3 x m (i : Nat) = seesB m ((cs x).drop i) := by
  have ef : fromIndex x.length ((i : Nat) : Int) = i := by
    show (max 0 (if ((i : Nat) : Int) < 0 then ((i : Nat) : Int) + (x.length : Nat) else ((i : Nat) : Int))).toNat = i
    rw [if_neg (by omega)]
    omega
  unfold Txt.startswith3 seesB
  rw [ef, StrLaws.subAt_eq]
  have hm : m.length = (cs m).length := len_cs m
  have hx : x.length = (cs x).length := len_cs x
  rw [Bool.eq_iff_iff, Bool.and_eq_true, decide_eq_true_iff, List.isPrefixOf_iff_prefix, beq_iff_eq, List.prefix_iff_eq_take]
  constructor
  · rintro ⟨_, h⟩
    rw [hm] at h
    exact h.symm
  · intro h
    refine ⟨?_, by rw [hm]; exact h.symm⟩
    have z := congrArg List.length h
    rw [List.length_take, List.length_drop] at z
    omega
section
variable {P : Program} {w : World} {K : Frag} {mg : Str → Option Value} {base : Heap}
abbrev sSe : Stmt := inClass (top 15) 3
abbrev nSe : List Str := ["self", "mark"]
theorem scSe : FnScope nSe ["self", "mark"] (defScope sSe) := ⟨rfl, rfl, rfl, by decide +kernel, rfl, by decide +kernel, by decide +kernel⟩
theorem has_Se {f C : Addr} {fd : FuncData} (F : Fun K "sees" "Scanner.sees" sSe f fd) (m : Meth K C "sees" f) (B : Blt mg) (T : Txt K mg C) :
    HasM P w K mg base C 1 "sees" ["self", "mark"] (spSe C) := by
  refine ⟨f, fd, m, F.binds (ps := ["self", "mark"]) (fun _ _ _ _ _ _ us hl => match us, hl with | [_, _], _ => rfl), F.ok scSe (fun vs H Q E h => ?_) (fun cdv A outer s H vs Q E hr h => ?_)⟩
  · obtain ⟨p, x, y, m, r, rfl, _⟩ := h
    rfl
  · refine ⟨_, (pss_one (ps_ret (pe_bm PySem.F.plainAttrs_str PySem.F.slot_str_startswith PySem.F.type_str_startswith mt_startswith3 (pe_fld (pv 0) rfl) (pa_cons (pv 1) (pa_cons (pe_fld (pv 0) rfl) pa_nil))))), ?_⟩
    obtain ⟨p, x, y, m, r, rfl, S, k⟩ := h
    obtain ⟨i, dx, hp, hr', hi, hl⟩ := S
    refine ⟨_, rfl, p, C, dx, _, _, rfl, hp, T.cl, T.nT, fl_text .., rfl, _, rfl, _, rfl, p, C, dx, _, _, rfl, hp, T.cl, T.nA, fl_atv .., x, m, _, rfl, rfl, ?_⟩
    rw [starts_at hi, hr']
    exact k
abbrev sSo : Stmt := inClass (top 15) 4
abbrev nSo : List Str := ["self", "some"]
theorem scSo : FnScope nSo ["self", "some"] (defScope sSo) := ⟨rfl, rfl, rfl, by decide +kernel, rfl, by decide +kernel, by decide +kernel⟩
theorem has_So {f C : Addr} {fd : FuncData} (F : Fun K "sees_one_of" "Scanner.sees_one_of" sSo f fd) (m : Meth K C "sees_one_of" f) (B : Blt mg) (T : Txt K mg C) :
    HasM P w K mg base C 1 "sees_one_of" ["self", "some"] (spSo C) := by
  refine ⟨f, fd, m, F.binds (ps := ["self", "some"]) (fun _ _ _ _ _ _ us hl => match us, hl with | [_, _], _ => rfl), F.ok scSo (fun vs H Q E h => ?_) (fun cdv A outer s H vs Q E hr h => ?_)⟩
  · obtain ⟨p, x, y, m, r, rfl, _⟩ := h
    rfl
  · refine ⟨_, (pss_one (ps_ret (pe_and (pe_cmpR op_lt (pe_fld (pv 0) rfl) (pe_callB call_len (by rfl) B.len PySem.boot_len (pa_cons (pe_fld (pv 0) rfl) pa_nil)) (nomark _)) (pe_one (pe_cmpR op_in_sign (pe_ix ix_str (pe_fld (pv 0) rfl) (pe_fld (pv 0) rfl) (fun _ _ => rfl)) (pv 1) (by rfl)))))), ?_⟩
    obtain ⟨p, x, y, m, r, rfl, S, k⟩ := h
    obtain ⟨i, dx, hp, hr', hi, hl⟩ := S
    refine ⟨_, rfl, p, C, dx, _, _, rfl, hp, T.cl, T.nA, fl_atv .., _, rfl, p, C, dx, _, _, rfl, hp, T.cl, T.nT, fl_text .., .str x, x.length, rfl, ⟨line_small (by omega), rfl⟩, _, _, rfl, rfl, ?_⟩
    refine ⟨_, rfl, ?_⟩
    by_cases c : i < x.length
    · obtain ⟨d, q, e⟩ : ∃ d q, r = d :: q := by
        cases e : r with
        | nil =>
          rw [e] at hr'
          have z := congrArg List.length hr'
          rw [List.length_drop, ← len_cs] at z
          have z' : x.length - i = 0 := z
          omega
        | cons d q => exact ⟨d, q, rfl⟩
      have hd : (cs x)[i]? = some d := by
        have z : ((cs x).drop i)[0]? = some d := by rw [hr', e]; rfl
        rw [List.getElem?_drop] at z
        exact z
      refine if_yes (decide_eq_true (by omega)) ⟨_, rfl, p, C, dx, _, _, rfl, hp, T.cl, T.nT, fl_text .., _, rfl, p, C, dx, _, _, rfl, hp, T.cl, T.nA, fl_atv .., x, i, d, rfl, rfl, line_small (by omega), atI_nat hd, _, rfl, d, m, rfl, rfl, ?_⟩
      rw [e] at k
      exact k
    · refine if_no (decide_eq_false (by omega)) ?_
      have e : r = [] := by
        rw [← hr']
        exact List.drop_eq_nil_of_le (by rw [← len_cs]; omega)
      rw [e] at k
      exact k
abbrev sAe : Stmt := inClass (top 15) 2
abbrev nAe : List Str := ["self"]
theorem scAe : FnScope nAe ["self"] (defScope sAe) := ⟨rfl, rfl, rfl, by decide +kernel, rfl, by decide +kernel, by decide +kernel⟩
theorem has_Ae {f C : Addr} {fd : FuncData} (F : Fun K "is_at_end" "Scanner.is_at_end" sAe f fd) (m : Meth K C "is_at_end" f) (B : Blt mg) (T : Txt K mg C) :
    HasM P w K mg base C 1 "is_at_end" ["self"] (spAe C) := by
  refine ⟨f, fd, m, F.binds (ps := ["self"]) (fun _ _ _ _ _ _ us hl => match us, hl with | [_], _ => rfl), F.ok scAe (fun vs H Q E h => ?_) (fun cdv A outer s H vs Q E hr h => ?_)⟩
  · obtain ⟨p, x, y, r, rfl, _⟩ := h
    rfl
  · refine ⟨_, (pss_one (ps_ret (pe_cmpR op_eq (pe_fld (pv 0) rfl) (pe_callB call_len (by rfl) B.len PySem.boot_len (pa_cons (pe_fld (pv 0) rfl) pa_nil)) (nomark _)))), ?_⟩
    obtain ⟨p, x, y, r, rfl, S, k⟩ := h
    obtain ⟨i, dx, hp, hr', hi, hl⟩ := S
    refine ⟨_, rfl, p, C, dx, _, _, rfl, hp, T.cl, T.nA, fl_atv .., _, rfl, p, C, dx, _, _, rfl, hp, T.cl, T.nT, fl_text .., .str x, x.length, rfl, ⟨line_small (by omega), rfl⟩, rfl, ?_⟩
    have e : r.isEmpty = decide (V.int (i : Nat) = V.int (x.length : Nat)) := by
      have lr : r.length = x.length - i := by rw [← hr', List.length_drop, ← len_cs]
      cases q : r with
      | nil =>
        rw [q] at lr
        have lr' : 0 = x.length - i := lr
        rw [show i = x.length by omega]
        simp
      | cons c l =>
        rw [q, List.length_cons] at lr
        symm
        refine decide_eq_false fun z => ?_
        have := V.int.inj z
        omega
    rw [e] at k
    exact k
end
end Qb
end PySem
namespace PySem
namespace Qb
open PySem.W PySem.Calls PyProof.Rows L2
theorem sees_len {m : Str} {r : L} (h : seesB m r = true) : (cs m).length ≤ r.length := by
  obtain ⟨q, e⟩ := List.isPrefixOf_iff_prefix.mp h
  rw [← e, List.length_append]
  omega
theorem tw_split {S q r : L} (hq : ∀ c ∈ q, c ∈ S) (hr : ∀ c l, r = c :: l → c ∉ S) : (q ++ r).takeWhile (fun c => decide (c ∈ S)) = q ∧ (q ++ r).dropWhile (fun c => decide (c ∈ S)) = r := by
  induction q with
  | nil =>
    cases r with
    | nil => exact ⟨rfl, rfl⟩
    | cons c r =>
      have n : ¬ decide (c ∈ S) = true := fun z => hr c r rfl (of_decide_eq_true z)
      exact ⟨List.takeWhile_cons_of_neg (p := fun c => decide (c ∈ S)) n, List.dropWhile_cons_of_neg (p := fun c => decide (c ∈ S)) n⟩
  | cons c l ih =>
    have z := ih fun d m => hq d (.tail _ m)
    have p : decide (c ∈ S) = true := decide_eq_true (hq c (.head _))
    exact ⟨by rw [List.cons_append, List.takeWhile_cons_of_pos (p := fun c => decide (c ∈ S)) p, z.1], by rw [List.cons_append, List.dropWhile_cons_of_pos (p := fun c => decide (c ∈ S)) p, z.2]⟩
section
variable {P : Program} {w : World} {K : Frag} {mg : Str → Option Value} {base : Heap}
abbrev sTa : Stmt := inClass (top 15) 5
abbrev nTa : List Str := ["self", "mark", "found"]
theorem scTa : FnScope nTa ["self", "mark"] (defScope sTa) := ⟨rfl, rfl, rfl, by decide +kernel, rfl, by decide +kernel, by decide +kernel⟩
theorem has_Ta {f C : Addr} {fd : FuncData} (F : Fun K "takes" "Scanner.takes" sTa f fd) (m : Meth K C "takes" f) (B : Blt mg) (T : Txt K mg C) (hSe : HasM P w K mg base C 1 "sees" ["self", "mark"] (spSe C)) :
    HasM P w K mg base C 2 "takes" ["self", "mark"] (spTa C) := by
  obtain ⟨fSe, dSe, mSe, bSe, GSe⟩ := hSe
  refine ⟨f, fd, m, F.binds (ps := ["self", "mark"]) (fun _ _ _ _ _ _ us hl => match us, hl with | [_, _], _ => rfl), F.ok scTa (fun vs H Q E h => ?_) (fun cdv A outer s H vs Q E hr h => ?_)⟩
  · obtain ⟨p, x, y, m, r, rfl, _⟩ := h
    rfl
  · refine ⟨_, (pss_cons (ps_set (i := 2) scTa.nd rfl (.inl rfl) (pe_meth (pv 0) T.cl mSe GSe hr bSe .nil pass0 (pa_cons (pv 1) pa_nil)))
        (pss_cons (ps_if (pt_val (pv 2)) (pss_one (ps_fldaug (pv 0) (pe_callB call_len (by rfl) B.len PySem.boot_len (pa_cons (pv 1) pa_nil)) in_add)) pss_nil)
        (pss_one (ps_ret (pv 2))))), ?_⟩
    obtain ⟨p, x, y, m, r, rfl, S, lm, k1, k0⟩ := h
    obtain ⟨i, dx, hp, hr', hi, hl⟩ := id S
    refine ⟨_, rfl, p, dx, _, rfl, hp, rfl, _, rfl, p, x, y, m, r, rfl, S, _, rfl, _, rfl, if_by (fun e => ?_) (fun e => ?_)⟩
    · have hs := sees_len e
      have ln : r.length = x.length - i := by rw [← hr', List.length_drop, ← len_cs]
      refine ⟨_, rfl, p, C, dx, _, _, rfl, hp, T.cl, T.nA, fl_atv .., _, rfl, .str m, m.length, rfl, ⟨line_small (by omega), rfl⟩, _, _, rfl, rfl, dx, _, hp, (by show 4 < 1000; decide), _, rfl, ?_⟩
      have e1 : putF ("at" : Str) (.int (((i : Nat) : Int) + ((m.length : Nat) : Int))) (fl x y i) = fl x y (i + m.length) := fl_at x y i (i + m.length)
      dsimp only
      rw [e1, e]
      refine k1 e _ Mv.put ⟨i + m.length, dx, upd_same, ?_, ?_, hl⟩
      · rw [← hr', List.drop_drop, len_cs m]
      · rw [len_cs m]
        omega
    · rw [e]
      exact ⟨_, rfl, k0 e⟩
abbrev sFa : Stmt := inClass (top 15) 9
abbrev nFa : List Str := ["self"]
theorem scFa : FnScope nFa ["self"] (defScope sFa) := ⟨rfl, rfl, rfl, by decide +kernel, rfl, by decide +kernel, by decide +kernel⟩
theorem has_Fa {f C : Addr} {fd : FuncData} {fI CU : Addr} (EGi : EG K fI) {mU : List Value} (TU : EC K mg fI "Unreadable" CU mU) {dI : FuncData} (GIn : FnOk P w K mg base CX0 1 fI dI ["self", "value"] (spInit K)) (bIn : Binds K dI ["self", "value"] []) (F : Fun K "fail" "Scanner.fail" sFa f fd) (m : Meth K C "fail" f) (B : Blt mg) (T : Txt K mg C) :
    HasMX P w K mg base C 3 "fail" ["self"] (spFa C CU) := by
  refine ⟨f, fd, m, F.binds (ps := ["self"]) (fun _ _ _ _ _ _ us hl => match us, hl with | [_], _ => rfl), F.okX scFa (fun vs H Q E h => ?_) (fun cdv A outer s H vs Q E hr h => ?_)⟩
  · obtain ⟨p, x, y, r, rfl, _⟩ := h
    rfl
  · refine ⟨_, (pss_one (ps_raise rfl (takes_of rfl rfl rfl rfl) (pmk_oex TU.oex TU.iC EGi.tI GIn (hr.mono (by decide)) bIn .nil pass0 (by rfl) TU.gC (by exact (pa_cons (pe_fld (pv 0) rfl) pa_nil))))), ?_⟩
    obtain ⟨p, x, y, r, rfl, S, k⟩ := h
    obtain ⟨i, dx, hp, hr', hi, hl⟩ := S
    exact ⟨_, rfl, p, C, dx, _, _, rfl, hp, T.cl, T.nW, fl_whole .., init_end TU.oex TU.no fun d nd => k d nd⟩
abbrev sNe : Stmt := inClass (top 15) 6
abbrev nNe : List Str := ["self", "mark"]
theorem scNe : FnScope nNe ["self", "mark"] (defScope sNe) := ⟨rfl, rfl, rfl, by decide +kernel, rfl, by decide +kernel, by decide +kernel⟩
theorem has_Ne {f C : Addr} {fd : FuncData} {CU : Addr} (F : Fun K "need" "Scanner.need" sNe f fd) (m : Meth K C "need" f) (B : Blt mg) (T : Txt K mg C) (hTa : HasM P w K mg base C 2 "takes" ["self", "mark"] (spTa C)) (hFa : HasMX P w K mg base C 3 "fail" ["self"] (spFa C CU)) :
    HasMX P w K mg base C 4 "need" ["self", "mark"] (spNe C CU) := by
  obtain ⟨fTa, dTa, mTa, bTa, GTa⟩ := hTa
  obtain ⟨fFa, dFa, mFa, bFa, GFa⟩ := hFa
  refine ⟨f, fd, m, F.binds (ps := ["self", "mark"]) (fun _ _ _ _ _ _ us hl => match us, hl with | [_, _], _ => rfl), F.okX scNe (fun vs H Q E h => ?_) (fun cdv A outer s H vs Q E hr h => ?_)⟩
  · obtain ⟨p, x, y, m, r, rfl, _⟩ := h
    rfl
  · refine ⟨_, (pss_one (ps_if (pt_not (pt_val (pe_meth (pv 0) T.cl mTa GTa (hr.mono (by decide)) bTa .nil pass0 (pa_cons (pv 1) pa_nil)))) (pss_one (ps_expr (pe_meth0 (pv 0) T.cl mFa GFa hr bFa .nil (pass_of (takes_of rfl rfl rfl rfl))))) pss_nil)), ?_⟩
    obtain ⟨p, x, y, m, r, rfl, S, lm, k1, k0⟩ := h
    obtain ⟨i, dx, hp, hr', hi, hl⟩ := id S
    refine ⟨_, rfl, p, dx, _, rfl, hp, rfl, _, rfl, p, x, y, m, r, rfl, S, lm, fun e H' mv S' => ⟨_, rfl, if_no rfl (k1 e H' mv S')⟩, fun e => ⟨_, rfl, if_yes rfl ?_⟩⟩
    exact ⟨_, rfl, p, dx, _, rfl, hp, rfl, p, x, y, r, rfl, S, k0 e⟩
abbrev sRo : Stmt := inClass (top 15) 7
abbrev nRo : List Str := ["self", "some", "start"]
theorem scRo : FnScope nRo ["self", "some"] (defScope sRo) := ⟨rfl, rfl, rfl, by decide +kernel, rfl, by decide +kernel, by decide +kernel⟩
theorem has_Ro {f C : Addr} {fd : FuncData} (F : Fun K "row_of" "Scanner.row_of" sRo f fd) (m : Meth K C "row_of" f) (B : Blt mg) (T : Txt K mg C) (hSo : HasM P w K mg base C 1 "sees_one_of" ["self", "some"] (spSo C)) :
    HasM P w K mg base C 2 "row_of" ["self", "some"] (spRo C) := by
  obtain ⟨fSo, dSo, mSo, bSo, GSo⟩ := hSo
  refine ⟨f, fd, m, F.binds (ps := ["self", "some"]) (fun _ _ _ _ _ _ us hl => match us, hl with | [_, _], _ => rfl), F.ok scRo (fun vs H Q E h => ?_) (fun cdv A outer s H vs Q E hr h => ?_)⟩
  · obtain ⟨p, x, y, m, r, rfl, _⟩ := h
    rfl
  · refine ⟨_, (pss_cons (ps_set (i := 2) scRo.nd rfl (.inl rfl) (pe_fld (pv 0) rfl))
        (pss_cons (ps_while PassesOwn.never (pt_val (pe_meth (pv 0) T.cl mSo GSo hr bSo .nil pass0 (pa_cons (pv 1) pa_nil))) (pss_one (ps_fldaug (pv 0) pe_int in_add)))
        (pss_one (ps_ret (pe_slice sl_str (pe_fld (pv 0) rfl) (po_some (pv 2)) (po_some (pe_fld (pv 0) rfl))))))), ?_⟩
    obtain ⟨p, x, y, m, r, rfl, S, k⟩ := h
    obtain ⟨i, dx, hp, hr', hi, hl⟩ := id S
    refine ⟨_, rfl, p, C, dx, _, _, rfl, hp, T.cl, T.nA, fl_atv .., ?_⟩
    refine while_n (fun n σ H' => ∃ (q r' : L) (dx' : Addr), σ = [some (.ref p), some (.str m), some (.int (i : Nat))] ∧ Mv p H H' ∧ H' p = some (.ins C dx' (fl x y (i + q.length))) ∧ r = q ++ r' ∧ (∀ c ∈ q, c ∈ cs m) ∧ n = r'.length) r.length ⟨[], r, dx, rfl, Mv.refl, hp, rfl, (fun c h => by cases h), rfl⟩ (fun n σ H' e => ?_)
    obtain ⟨q, r', dx', rfl, mv, hp', er, hq, rfl⟩ := e
    have ln : r.length = x.length - i := by rw [← hr', List.length_drop, ← len_cs]
    have lq : q.length + r'.length = x.length - i := by rw [← ln, er, List.length_append]
    have hr2 : (cs x).drop (i + q.length) = r' := by rw [← List.drop_drop, hr', er, List.drop_left]
    have S' : Sc C H' p x y r' := ⟨i + q.length, dx', hp', hr2, by omega, hl⟩
    refine ⟨_, rfl, p, dx', _, rfl, hp', rfl, _, rfl, p, x, y, m, r', rfl, S', _, rfl, if_by (fun e => ?_) (fun e => ?_)⟩
    · obtain ⟨c, l, rfl⟩ : ∃ c l, r' = c :: l := by
        cases r' with
        | nil => cases e
        | cons c l => exact ⟨c, l, rfl⟩
      have hc : c ∈ cs m := of_decide_eq_true e
      refine ⟨_, fun σ' H' z => z, ?_⟩
      refine ⟨_, rfl, p, C, dx', _, _, rfl, hp', T.cl, T.nA, fl_atv .., _, _, rfl, rfl, dx', _, hp', (by show 4 < 1000; decide), l.length, by simp, q ++ [c], l, dx', rfl, mv.trans Mv.put, ?_, by rw [er]; simp, ?_, rfl⟩
      · rw [upd_same]
        have e1 : putF ("at" : Str) (.int (((i + q.length : Nat) : Int) + 1)) (fl x y (i + q.length)) = fl x y (i + (q ++ [c]).length) := by
          rw [List.length_append]
          exact fl_at x y (i + q.length) (i + (q.length + 1))
        rw [e1]
      · intro d md
        rcases List.mem_append.mp md with md | md
        · exact hq d md
        · rw [List.mem_singleton.mp md]
          exact hc
    · have key : ∀ c l, r' = c :: l → c ∉ cs m := fun c l e2 => by
        rw [e2] at e
        exact of_decide_eq_false e
      have two : r.takeWhile (fun c => decide (c ∈ cs m)) = q ∧ r.dropWhile (fun c => decide (c ∈ cs m)) = r' := by
        rw [er]
        exact tw_split hq key
      refine ⟨_, rfl, p, C, dx', _, _, rfl, hp', T.cl, T.nT, fl_text .., _, rfl, _, rfl, _, rfl, p, C, dx', _, _, rfl, hp', T.cl, T.nA, fl_atv .., _, rfl, x, rfl, line_small (by omega), ?_⟩
      have ec : cutS x (some ((i : Nat) : Int)) (some ((i + q.length : Nat) : Int)) = st q := str_of (by
        show ((cs x).drop (HT.sIx x.length 0 (some ((i : Nat) : Int)))).take (HT.sIx x.length x.length (some ((i + q.length : Nat) : Int)) - HT.sIx x.length 0 (some ((i : Nat) : Int))) = q
        rw [HT.sIx_nat, HT.sIx_nat, Nat.min_eq_left (by omega), Nat.min_eq_left (by omega), hr', er, show i + q.length - i = q.length by omega, List.take_left])
      rw [ec]
      have z := k H' mv (by rw [two.2]; exact S')
      rw [two.1] at z
      exact z
abbrev sSc : Stmt := inClass (top 15) 0
abbrev nSc : List Str := ["self", "text", "whole"]
theorem scSc : FnScope nSc ["self", "text", "whole"] (defScope sSc) := ⟨rfl, rfl, rfl, by decide +kernel, rfl, by decide +kernel, by decide +kernel⟩
theorem ok_Sc {f C : Addr} {fd : FuncData} (F : Fun K "__init__" "Scanner.__init__" sSc f fd) (T : Txt K mg C) : FnOk P w K mg base CX0 1 f fd ["self", "text", "whole"] (spSc C) := by
  refine F.ok scSc (fun vs H Q E h => ?_) (fun cdv A outer s H vs Q E hr h => ?_)
  · obtain ⟨p, dx, x, y, rfl, _⟩ := h
    rfl
  · refine ⟨_, (pss_cons (ps_fld (pv 0) (pv 1) rfl)
        (pss_cons (ps_fld (pv 0) (pv 2) rfl)
        (pss_cons (ps_fld (pv 0) pe_int rfl)
        (pss_one (ps_fld (pv 0) (pe_un un_neg pe_int) rfl))))), ?_⟩
    obtain ⟨p, dx, x, y, rfl, hp, hl, k⟩ := h
    have f1 : putF ("text" : Str) (.str x) [] = [(("text" : Str), V.str x)] := rfl
    have f2 : putF ("whole" : Str) (.str y) [(("text" : Str), V.str x)] = [(("text" : Str), V.str x), (("whole" : Str), V.str y)] := by
      show (if ("text" : Str) = "whole" then _ else _) = _
      rw [if_neg (by decide +kernel)]
      rfl
    have f3 : putF ("at" : Str) (.int 0) [(("text" : Str), V.str x), (("whole" : Str), V.str y)] = [(("text" : Str), V.str x), (("whole" : Str), V.str y), (("at" : Str), V.int 0)] := by
      show (if ("text" : Str) = "at" then _ else (("text" : Str), V.str x) :: (if ("whole" : Str) = "at" then _ else _)) = _
      rw [if_neg (by decide +kernel), if_neg (by decide +kernel)]
      rfl
    have f4 : putF ("word_end" : Str) (.int (-1)) [(("text" : Str), V.str x), (("whole" : Str), V.str y), (("at" : Str), V.int 0)] = fl x y 0 := by
      show (if ("text" : Str) = "word_end" then _ else (("text" : Str), V.str x) :: (if ("whole" : Str) = "word_end" then _ else (("whole" : Str), V.str y) :: (if ("at" : Str) = "word_end" then _ else _))) = _
      rw [if_neg (by decide +kernel), if_neg (by decide +kernel), if_neg (by decide +kernel)]
      rfl
    refine ⟨_, rfl, _, rfl, p, C, dx, _, rfl, hp, T.cl, T.nT, by decide, ?_⟩
    rw [f1]
    refine ⟨_, rfl, _, rfl, p, C, dx, _, rfl, upd_same, T.cl, T.nW, (by show 1 < 1000; decide), ?_⟩
    rw [f2, upd_upd]
    refine ⟨_, rfl, p, C, dx, _, rfl, upd_same, T.cl, T.nA, (by show 2 < 1000; decide), ?_⟩
    rw [f3, upd_upd]
    refine ⟨_, rfl, _, rfl, p, C, dx, _, rfl, upd_same, T.cl, T.nE, (by show 3 < 1000; decide), ?_⟩
    rw [upd_upd]
    have z := k _ Mv.put ⟨0, dx, upd_same, rfl, Nat.zero_le _, hl⟩
    rw [← f4] at z
    exact z
end
end Qb
end PySem
namespace PySem
namespace Qb
open PySem.W PySem.Calls PyProof.Rows L2
/-! # signs, places, digits -/
def Out {α : Type} (C CU p : Addr) (x y : Str) (H : Hp) (Q : VK) (E : XK) (good : α → V → Hp → Prop) (o : Option (α × L)) : Prop :=
  (∀ a r2, o = some (a, r2) → ∀ H' v, Mv p H H' → Sc C H' p x y r2 → good a v H' → Q v H') ∧ (o = none → ∀ H', Mv p H H' → RaisesU E CU y H')
theorem Out.mv {α : Type} {C CU p : Addr} {x y : Str} {H H1 : Hp} {Q : VK} {E : XK} {good : α → V → Hp → Prop} {o : Option (α × L)} (h : Out C CU p x y H Q E good o) (m : Mv p H H1) : Out C CU p x y H1 Q E good o :=
  ⟨fun a r2 e H' v m' S g => h.1 a r2 e H' v (m.trans m') S g, fun e H' m' => h.2 e H' (m.trans m')⟩
def signOf (r : L) : Str := match tpSign r with
  | none => ""
  | some q => q.1
def spTs (C : Addr) : Sp := fun vs H Q _ => ∃ (p : Addr) (x y : Str) (r : L), vs = [.ref p] ∧ Sc C H p x y r ∧ Q (.str (signOf r)) H
def gTxt : L → V → Hp → Prop := fun d v _ => v = .str (st d)
def spDg (C CU : Addr) : Sp := fun vs H Q E => ∃ (p : Addr) (x y : Str) (r : L), vs = [.ref p] ∧ Sc C H p x y r ∧ Out C CU p x y H Q E gTxt (rdDig r)
def spPc (C CU : Addr) : Sp := fun vs H Q E => ∃ (p : Addr) (x y : Str) (r : L), vs = [.ref p] ∧ Sc C H p x y r ∧ Out C CU p x y H Q E gTxt (rdPlc r)
theorem seesB_tpk {q : Str × L} (h : q ∈ tpk) (r : L) : seesB q.1 r = q.2.isPrefixOf r := by
  unfold seesB
  rw [tpk_cs q h]
section
variable {P : Program} {w : World} {K : Frag} {mg : Str → Option Value} {base : Heap}
abbrev sTs : Stmt := top 27
abbrev nTs : List Str := ["scanner", "sign"]
theorem scTs : FnScope nTs ["scanner"] (defScope sTs) := ⟨rfl, rfl, rfl, by decide +kernel, rfl, by decide +kernel, by decide +kernel⟩
theorem has_Ts {f C : Addr} {fd : FuncData} (F : Fun K "two_part_sign" "two_part_sign" sTs f fd) (g : mg "two_part_sign" = some (.ref f)) (W : Wrt K w mg) (T : Txt K mg C) (hSe : HasM P w K mg base C 1 "sees" ["self", "mark"] (spSe C)) :
    Has P w K mg base 2 "two_part_sign" ["scanner"] (spTs C) := by
  obtain ⟨fSe, dSe, mSe, bSe, GSe⟩ := hSe
  obtain ⟨pP, gP, sP⟩ := W.tps
  refine has_of F g (F.binds (ps := ["scanner"]) fun _ _ _ _ _ _ us hl => match us, hl with | [_], _ => rfl) (F.ok scTs (fun vs H Q E h => ?_) (fun cdv A outer s H vs Q E hr h => ?_))
  · obtain ⟨p, x, y, r, rfl, _⟩ := h
    rfl
  · refine ⟨_, (pss_cons (ps_for PassesOwn.never rfl (pi_tup (pe_glob (v := .ref pP) (by rfl) gP rfl)) (pg_name (i := 1) scTs.nd rfl (.inl rfl))
          (pss_one (ps_if (pt_val (pe_meth (pv 0) T.cl mSe GSe hr bSe .nil pass0 (pa_cons (pv 1) pa_nil))) (pss_one (ps_ret (pv 1))) pss_nil)))
        (pss_one (ps_ret pe_str))), ?_⟩
    obtain ⟨p, x, y, r, rfl, S, k⟩ := h
    obtain ⟨i, dx, hp, _⟩ := id S
    refine ⟨pP, rfl, ⟨_, sP H⟩, for_tup (xs := tpW.map V.str) (fun j σ H' => (∃ z, σ = [some (.ref p), z]) ∧ H' = H ∧ ∀ q ∈ tpk.take j, q.2.isPrefixOf r = false) ⟨⟨_, rfl⟩, rfl, fun q m => by cases m⟩ (fun j σ H' _ e => sP H') (fun j v σ H' hv e => ?_) (fun σ H' e => ?_)⟩
    · obtain ⟨⟨z, rfl⟩, rfl, no⟩ := e
      obtain ⟨q, hq, rfl⟩ : ∃ q, tpk[j]? = some q ∧ v = .str q.1 := by
        rw [tpW_eq, List.map_map, List.getElem?_map] at hv
        cases e : tpk[j]? with
        | none => rw [e] at hv; cases hv
        | some q => rw [e] at hv; exact ⟨q, rfl, (Option.some.inj hv).symm⟩
      have mq : q ∈ tpk := List.mem_of_getElem? hq
      refine ⟨_, rfl, p, dx, _, rfl, hp, rfl, _, rfl, p, x, y, q.1, r, rfl, S, _, rfl, ?_⟩
      rw [seesB_tpk mq]
      refine if_by (fun e => ?_) (fun e => ?_)
      · refine ⟨_, rfl, ?_⟩
        have es : signOf r = q.1 := by
          have ef : tpSign r = some q := by
            unfold tpSign
            rw [List.find?_eq_some_iff_getElem]
            obtain ⟨hj, ej⟩ := List.getElem?_eq_some_iff.mp hq
            refine ⟨e, j, hj, ej, fun k hk => ?_⟩
            have := no (tpk[k]'(by omega)) (List.mem_take_iff_getElem.mpr ⟨k, by omega, rfl⟩)
            simpa using this
          unfold signOf
          rw [ef]
        rw [es] at k
        exact k
      · refine ⟨⟨_, rfl⟩, rfl, fun q' m => ?_⟩
        rw [take_snoc hq] at m
        rcases List.mem_append.mp m with m | m
        · exact no q' m
        · rw [List.mem_singleton.mp m]
          exact e
    · obtain ⟨⟨z, rfl⟩, rfl, no⟩ := e
      have ef : tpSign r = none := by
        unfold tpSign
        rw [List.find?_eq_none]
        intro q m
        have := no q (by rw [show (tpW.map V.str).length = tpk.length by rfl, List.take_length]; exact m)
        intro z
        rw [this] at z
        cases z
      unfold signOf at k
      rw [ef] at k
      exact k
abbrev sDg : Stmt := top 31
abbrev nDg : List Str := ["scanner", "digits"]
theorem scDg : FnScope nDg ["scanner"] (defScope sDg) := ⟨rfl, rfl, rfl, by decide +kernel, rfl, by decide +kernel, by decide +kernel⟩
theorem has_Dg {f C CU : Addr} {fd : FuncData} (F : Fun K "digits_at" "digits_at" sDg f fd) (g : mg "digits_at" = some (.ref f)) (B : Blt mg) (W : Wrt K w mg) (T : Txt K mg C) (hRo : HasM P w K mg base C 2 "row_of" ["self", "some"] (spRo C)) (hFa : HasMX P w K mg base C 3 "fail" ["self"] (spFa C CU)) :
    HasX P w K mg base 4 "digits_at" ["scanner"] (spDg C CU) := by
  obtain ⟨fRo, dRo, mRo, bRo, GRo⟩ := hRo
  obtain ⟨fFa, dFa, mFa, bFa, GFa⟩ := hFa
  refine hasX_of F g (F.binds (ps := ["scanner"]) fun _ _ _ _ _ _ us hl => match us, hl with | [_], _ => rfl) (F.okX scDg (fun vs H Q E h => ?_) (fun cdv A outer s H vs Q E hr h => ?_))
  · obtain ⟨p, x, y, r, rfl, _⟩ := h
    rfl
  · refine ⟨_, (pss_cons (ps_set (i := 1) scDg.nd rfl (.inl rfl) (pe_meth (pv 0) T.cl mRo GRo (hr.mono (by decide)) bRo .nil pass0 (pa_cons (glob_str (by rfl) W.dig) pa_nil)))
        (pss_cons (ps_if (PW.pt (pw_or (pt_cmpR op_eq (pv 1) pe_str (nomark _)) (pw_or1 (PW.pt (pw_and (pt_cmpR op_eq (pe_ix ix_str (pv 1) pe_int (fun _ _ => rfl)) pe_str (nomark _)) (pw_and1 (pt_cmpR op_gt (pe_callB call_len (by rfl) B.len PySem.boot_len (pa_cons (pv 1) pa_nil)) pe_int (nomark _)))))))) (pss_one (ps_expr (pe_meth0 (pv 0) T.cl mFa GFa hr bFa .nil (pass_of (takes_of rfl rfl rfl rfl))))) pss_nil)
        (pss_one (ps_ret (pv 1))))), ?_⟩
    obtain ⟨p, x, y, r, rfl, S, k1, k0⟩ := h
    obtain ⟨i, dx, hp, _⟩ := id S
    have hc : (fun c => decide (c ∈ cs digS)) = (fun c => decide (c ∈ digC)) := by rw [cs_dig]
    refine ⟨_, rfl, p, dx, _, rfl, hp, rfl, p, x, y, digS, r, rfl, S, fun H1 m1 S1 => ?_⟩
    rw [hc] at S1 ⊢
    have ld : (r.takeWhile fun c => decide (c ∈ digC)).length ≤ 90000 := Nat.le_trans (tw_le r) S.len
    generalize ed : (r.takeWhile fun c => decide (c ∈ digC)) = d at ld ⊢
    have bad : (d = [] ∨ (d.head? = some 48 ∧ 1 < d.length)) → rdDig r = none := fun z => by
      unfold rdDig
      dsimp only
      rw [ed, if_pos z]
    have fine : ¬(d = [] ∨ (d.head? = some 48 ∧ 1 < d.length)) → rdDig r = some (d, r.dropWhile fun c => decide (c ∈ digC)) := fun z => by
      unfold rdDig
      dsimp only
      rw [ed, if_neg z]
    obtain ⟨i1, dx1, hp1, _⟩ := id S1
    have bye : rdDig r = none → RaisesU E CU y H1 := fun z => k0 z H1 m1
    have run : ∀ {σ : L2.St} {D : Ends}, rdDig r = none → σ = [some (.ref p), some (.str (st d))] → True := fun _ _ => trivial
    refine ⟨_, rfl, rfl, _, rfl, ?_⟩
    by_cases h0 : d = []
    · subst h0
      refine if_yes (show decide (V.str (st []) = V.str ("" : Str)) = true by decide +kernel) ?_
      refine if_yes rfl ?_
      exact ⟨_, rfl, p, dx1, _, rfl, hp1, rfl, p, x, y, _, rfl, S1, bye (bad (.inl rfl))⟩
    · obtain ⟨c, l, rfl⟩ : ∃ c l, d = c :: l := by
        cases d with
        | nil => exact (h0 rfl).elim
        | cons c l => exact ⟨c, l, rfl⟩
      refine if_no (decide_eq_false fun z => by
        have y := congrArg cs (V.str.inj z)
        rw [cs_st] at y
        cases y) ?_
      have ac : atI (cs (st (c :: l))) 0 = some c := atI_nat (j := 0) (by rw [cs_st]; rfl)
      refine ⟨_, rfl, st (c :: l), 0, c, rfl, rfl, line_small (by rw [len_st]; omega), ac, rfl, _, rfl, ?_⟩
      have q48 : decide (V.str (⟨#[c]⟩ : Str) = V.str ("0" : Str)) = (c == 48) := by
        by_cases e : c = 48
        · subst e
          decide +kernel
        · rw [beq_eq_false_iff_ne.mpr e]
          refine decide_eq_false fun z => e ?_
          have y : cs (⟨#[c]⟩ : Str) = cs ("0" : Str) := congrArg cs (V.str.inj z)
          have w : cs ("0" : Str) = [48] := by decide +kernel
          rw [w] at y
          exact (List.cons.inj y).1
      rw [q48]
      have good : ∀ {Z : Prop}, ¬((c :: l) = [] ∨ ((c :: l).head? = some 48 ∧ 1 < (c :: l).length)) → (Q (.str (st (c :: l))) H1 → Z) → Z := fun z kz => kz (k1 _ _ (fine z) H1 _ m1 S1 rfl)
      by_cases e : c = 48
      · subst e
        refine if_yes (by decide) ⟨_, rfl, .str (st (48 :: l)), (48 :: l).length, rfl, ⟨line_small (by rw [len_st]; omega), by rw [len_st]⟩, _, _, rfl, rfl, _, rfl, ?_⟩
        by_cases e1 : 1 < (48 :: l).length
        · refine if_yes (decide_eq_true (by show (1 : Int) < ((48 :: l).length : Nat); omega)) ?_
          exact ⟨_, rfl, p, dx1, _, rfl, hp1, rfl, p, x, y, _, rfl, S1, bye (bad (.inr ⟨rfl, e1⟩))⟩
        · refine if_no (decide_eq_false (by show ¬ (1 : Int) < ((48 :: l).length : Nat); omega)) ⟨_, rfl, good ?_ id⟩
          rintro (z | ⟨_, z⟩)
          · cases z
          · exact e1 z
      · refine if_no (by simpa using e) (if_no rfl ⟨_, rfl, good ?_ id⟩)
        rintro (z | ⟨z, _⟩)
        · cases z
        · exact e (Option.some.inj z)
end
end Qb
end PySem
namespace PySem
namespace Qb
open PySem.W PySem.Calls PyProof.Rows L2
/-! # the parts of the reading -/
def wc (c : Nat) : Nat := if c = 40 then 4 else if c ∈ [45, 33, 63, 58, 38, 124, 60, 62, 61, 42, 47, 94, 43] then 1 else 0
def wt (r : L) : Nat := (r.map wc).sum
theorem wt_app (a b : L) : wt (a ++ b) = wt a + wt b := by
  unfold wt
  rw [List.map_append, List.sum_append]
theorem wt_cons (c : Nat) (b : L) : wt (c :: b) = wc c + wt b := wt_app [c] b
theorem tpk_wt : ∀ p ∈ tpk, 1 ≤ wt p.2 := by decide +kernel
theorem Ate.wt {r r' : L} {l : Nat} {t : Sm} {p : L} (A : Ate r l t p r') : wt r' ≤ wt r := by
  rw [A.eq, wt_app]
  omega
theorem Ate.rn {k : Nat} {r r' : L} {l : Nat} {t : Sm} {p : L} (A : Ate r l t p r') (h : Rn k r) : Rn k r' := by
  rw [A.eq] at h
  exact h.tail
def gTree (K : Frag) (p : Addr) : Sm → V → Hp → Prop := fun t v H => Dp K (hide H p) v t.d
def spRd (K : Frag) (C CU : Addr) (need : Nat) (rd : Rd) : Sp := fun vs H Q E => ∃ (p : Addr) (x y : Str) (r : L), vs = [.ref p] ∧ Sc C H p x y r ∧ Rn 80 r ∧ wt r + 1 ≤ need ∧ Out C CU p x y H Q E (gTree K p) (rd r)
def spTw (K : Frag) (C CU : Addr) (need : Nat) (rd : Nat → Rd) : Sp := fun vs H Q E => ∃ (p : Addr) (x y : Str) (r : L) (l : Nat), vs = [.ref p, .int (l : Nat)] ∧ Sc C H p x y r ∧ Rn 80 r ∧ wt r + 1 ≤ need ∧ l ≤ 8 ∧ Out C CU p x y H Q E (gTree K p) (rd l r)
abbrev spPl (K : Frag) (C CU : Addr) (n : Nat) : Sp := spRd K C CU n (rds n).plain
abbrev spAh (K : Frag) (C CU : Addr) (n : Nat) : Sp := spRd K C CU (n - 1) (rds n).ahead
abbrev spTwn (K : Frag) (C CU : Addr) (n : Nat) : Sp := spTw K C CU (n - 2) (rds n).two
abbrev spSu (K : Frag) (C CU : Addr) (n : Nat) : Sp := spRd K C CU (n - 3) (rds n).sum
theorem dp_mv {K : Frag} {p : Addr} {H H' : Hp} {v : V} {d : PyData} (h : Dp K (hide H p) v d) (m : Mv p H H') : Dp K (hide H' p) v d := dp_same m h
/-- a tuple of trees is made -/
theorem mk_tup {K : Frag} {p T : Addr} {H : Hp} {vs : List V} {ds : List PyData} (n : H T = none) (ne : T ≠ p) (h : DpAll K (hide H p) vs ds) : Dp K (hide (L2.upd H T (.tup vs)) p) (.ref T) (.tuple ds) :=
  .tup (SqT.of (hide_ne upd_same ne)) (dpAll_same (hide_mono (same_upd n)) h)
section
variable {P : Program} {w : World} {K : Frag} {mg : Str → Option Value} {base : Heap}
abbrev sPc : Stmt := top 30
abbrev nPc : List Str := ["scanner", "sign"]
theorem scPc : FnScope nPc ["scanner"] (defScope sPc) := ⟨rfl, rfl, rfl, by decide +kernel, rfl, by decide +kernel, by decide +kernel⟩
theorem has_Pc {f C CU : Addr} {fd : FuncData} (F : Fun K "place_at" "place_at" sPc f fd) (g : mg "place_at" = some (.ref f)) (T : Txt K mg C) (hTa : HasM P w K mg base C 2 "takes" ["self", "mark"] (spTa C)) (hDg : HasX P w K mg base 4 "digits_at" ["scanner"] (spDg C CU)) :
    HasX P w K mg base 5 "place_at" ["scanner"] (spPc C CU) := by
  obtain ⟨fTa, dTa, mTa, bTa, GTa⟩ := hTa
  obtain ⟨fDg, dDg, gDg, kDg, bDg, GDg⟩ := hDg
  refine hasX_of F g (F.binds (ps := ["scanner"]) fun _ _ _ _ _ _ us hl => match us, hl with | [_], _ => rfl) (F.okX scPc (fun vs H Q E h => ?_) (fun cdv A outer s H vs Q E hr h => ?_))
  · obtain ⟨p, x, y, r, rfl, _⟩ := h
    rfl
  · refine ⟨_, (pss_cons (ps_for (passes_of rfl) rfl (pi_tup (pe_tup (pa_cons pe_str (pa_cons pe_str pa_nil)))) (pg_name (i := 1) scPc.nd rfl (.inl rfl))
          (pss_one (ps_if (pt_val (pe_meth (pv 0) T.cl mTa GTa (hr.mono (by decide)) bTa .nil pass0 (pa_cons (pv 1) pa_nil))) (pss_one (ps_ret (pv 1))) pss_nil)))
        (pss_one (ps_ret (pe_callS GDg hr rfl gDg kDg bDg (fun σ => passAt (takes_of rfl rfl rfl rfl) σ) (by exact (pa_cons (pv 0) pa_nil)))))), ?_⟩
    obtain ⟨p, x, y, r, rfl, S, k1, k0⟩ := h
    refine ⟨(by decide : 2 ≤ sizeLine), fun T0 nT => ?_⟩
    have s1 := same_upd (o := .tup [.str "#", .str "?"]) nT
    have S1 := S.same s1
    have m1 : Mv p H _ := Mv.same s1
    have hT : (L2.upd H T0 (.tup [.str "#", .str "?"])) T0 = some (.tup (([("#" : Str), "?"]).map V.str)) := upd_same
    generalize L2.upd H T0 (.tup [.str "#", .str "?"]) = H1 at s1 S1 m1 hT ⊢
    have c35 : seesB ("#" : Str) r = true → ∃ l, r = 35 :: l := fun e => by
      obtain ⟨q, z⟩ := List.isPrefixOf_iff_prefix.mp e
      exact ⟨q, by rw [← z, show cs ("#" : Str) = [35] by decide +kernel]; rfl⟩
    have c63 : seesB ("?" : Str) r = true → ∃ l, r = 63 :: l := fun e => by
      obtain ⟨q, z⟩ := List.isPrefixOf_iff_prefix.mp e
      exact ⟨q, by rw [← z, show cs ("?" : Str) = [63] by decide +kernel]; rfl⟩
    refine ⟨T0, rfl, ⟨_, SqT.of hT⟩, for_tup (xs := ([("#" : Str), "?"]).map V.str) (fun j σ H' => (∃ z, σ = [some (.ref p), z]) ∧ H' = H1 ∧ (1 ≤ j → seesB ("#" : Str) r = false) ∧ (2 ≤ j → seesB ("?" : Str) r = false)) ⟨⟨_, rfl⟩, rfl, fun z => by omega, fun z => by omega⟩ (fun j σ H' _ e => by rw [e.2.1]; exact SqT.of hT) (fun j v σ H' hv e => ?_) (fun σ H' e => ?_)⟩
    · obtain ⟨⟨z, rfl⟩, rfl, n1, n2⟩ := e
      obtain ⟨i, dx, hp, _⟩ := id S1
      rcases j with _ | _ | j
      · obtain rfl := Option.some.inj hv
        refine ⟨_, rfl, p, dx, _, rfl, hp, rfl, _, rfl, p, x, y, "#", r, rfl, S1, by decide, fun e H2 m2 S2 => ⟨_, rfl, if_yes rfl ⟨_, rfl, ?_⟩⟩, fun e => ⟨_, rfl, if_no rfl ⟨⟨_, rfl⟩, rfl, fun _ => e, fun z => by omega⟩⟩⟩
        obtain ⟨l, rfl⟩ := c35 e
        exact k1 [35] l rfl H2 _ (m1.trans m2) S2 (show V.str ("#" : Str) = V.str (st [35]) by decide +kernel)
      · obtain rfl := Option.some.inj hv
        refine ⟨_, rfl, p, dx, _, rfl, hp, rfl, _, rfl, p, x, y, "?", r, rfl, S1, by decide, fun e H2 m2 S2 => ⟨_, rfl, if_yes rfl ⟨_, rfl, ?_⟩⟩, fun e => ⟨_, rfl, if_no rfl ⟨⟨_, rfl⟩, rfl, fun _ => n1 (by omega), fun _ => e⟩⟩⟩
        obtain ⟨l, rfl⟩ := c63 e
        exact k1 [63] l rfl H2 _ (m1.trans m2) S2 (show V.str ("?" : Str) = V.str (st [63]) by decide +kernel)
      · cases hv
    · obtain ⟨⟨z, rfl⟩, rfl, n1, n2⟩ := e
      have a1 := n1 (by decide)
      have a2 := n2 (by decide)
      have er : rdPlc r = rdDig r := by
        unfold rdPlc
        split
        · exact absurd a1 (by simp [seesB, show cs ("#" : Str) = [35] by decide +kernel])
        · exact absurd a2 (by simp [seesB, show cs ("?" : Str) = [63] by decide +kernel])
        · rfl
      rw [er] at k1 k0
      exact ⟨_, rfl, p, x, y, r, rfl, S1, (Out.mv ⟨k1, k0⟩ m1)⟩
end
end Qb
end PySem
namespace PySem
namespace Qb
open PySem.W PySem.Calls PyProof.Rows L2
theorem digVal_eq (d : L) : NumText.digitsVal d = digVal d := by
  unfold NumText.digitsVal digVal
  simp [Nat.mul_comm]
theorem int_of {d : L} (hn : d ≠ []) (ha : ∀ c ∈ d, c ∈ digC) (hl : d.length ≤ 80) : PySem.intText? (st d) = some ((digVal d : Nat) : Int) := by
  have e := cs_st d
  have z := intText_digits (x := st d) (fun c m => by
    have m' : c ∈ cs (st d) := m
    rw [e] at m'
    exact (by decide : ∀ c ∈ digC, 48 ≤ c ∧ c ≤ 57) c (ha c m')) (by rw [show (st d).cps.toList = d from e]; exact hn) (by rw [len_st]; omega)
  rw [show (st d).cps.toList = d from e, digVal_eq] at z
  exact z
theorem plainF_40n {sum : Rd} {r1 : L} (h : ∀ t l, sum r1 ≠ some (t, 41 :: l)) : plainF sum (40 :: r1) = none := by
  show (match sum r1 with
    | some (t, 41 :: r2) => some (t, r2)
    | _ => none) = _
  split
  · rename_i t l e
    exact (h _ _ e).elim
  · rfl
theorem plainF_36n {sum : Rd} {r1 : L} (h : rdPlc r1 = none) : plainF sum (36 :: r1) = none := by
  show (match rdPlc r1 with
    | none => none
    | some (w, r2) => some (Sm.of (st w), r2)) = _
  rw [h]
theorem plainF_else {sum : Rd} {r : L} (h1 : ∀ l, r ≠ 40 :: l) (h2 : ∀ l, r ≠ 36 :: l) : plainF sum r = if oneB staS r = true then some (.of (st (r.takeWhile fun d => decide (d ∈ namC))), r.dropWhile fun d => decide (d ∈ namC)) else match rdDig r with
    | none => none
    | some (d, r2) => some (.num (digVal d), r2) := by
  unfold plainF
  split
  · exact (h1 _ rfl).elim
  · exact (h2 _ rfl).elim
  · rename_i c l _ _
    by_cases hc : c ∈ staC
    · rw [if_pos hc, if_pos (show oneB staS (c :: l) = true from decide_eq_true hc)]
    · rw [if_neg hc, if_neg (show ¬ oneB staS (c :: l) = true from fun z => hc (of_decide_eq_true z))] <;> rfl
  · rfl
theorem sees_one {m : Str} {c : Nat} (hm : cs m = [c]) {r : L} : (seesB m r = true → ∃ l, r = c :: l) ∧ (seesB m r = false → ∀ l, r ≠ c :: l) := by
  constructor
  · intro e
    obtain ⟨q, z⟩ := List.isPrefixOf_iff_prefix.mp e
    exact ⟨q, by rw [← z, hm]; rfl⟩
  · rintro e l rfl
    unfold seesB at e
    rw [hm] at e
    simp at e
section
variable {P : Program} {w : World} {K : Frag} {mg : Str → Option Value} {base : Heap}
abbrev sPl : Stmt := top 29
abbrev nPl : List Str := ["scanner", "tree"]
theorem scPl : FnScope nPl ["scanner"] (defScope sPl) := ⟨rfl, rfl, rfl, by decide +kernel, rfl, by decide +kernel, by decide +kernel⟩
theorem ok_Pl {f C CU : Addr} {fd : FuncData} (F : Fun K "plain_at" "plain_at" sPl f fd) (B : Blt mg) (W : Wrt K w mg) (T : Txt K mg C) (hTa : HasM P w K mg base C 2 "takes" ["self", "mark"] (spTa C)) (hNe : HasMX P w K mg base C 4 "need" ["self", "mark"] (spNe C CU)) (hPc : HasX P w K mg base 5 "place_at" ["scanner"] (spPc C CU)) (hSo : HasM P w K mg base C 1 "sees_one_of" ["self", "some"] (spSo C)) (hRo : HasM P w K mg base C 2 "row_of" ["self", "some"] (spRo C)) (hDg : HasX P w K mg base 4 "digits_at" ["scanner"] (spDg C CU))
    {n : Nat} {fSu : Addr} {dSu : FuncData} (gSu : mg "sum_at" = some (.ref fSu)) (kSu : PySem.W.keepIn K (.ref fSu) = true) (bSu : Binds K dSu ["scanner"] []) (GSu : FnOk P w K mg base (L2.CX P w) (n + 6) fSu dSu ["scanner"] (spSu K C CU n)) :
    FnOk P w K mg base (L2.CX P w) (n + 7) f fd ["scanner"] (spPl K C CU (n + 1)) := by
  obtain ⟨fTa, dTa, mTa, bTa, GTa⟩ := hTa
  obtain ⟨fNe, dNe, mNe, bNe, GNe⟩ := hNe
  obtain ⟨fPc, dPc, gPc, kPc, bPc, GPc⟩ := hPc
  obtain ⟨fSo, dSo, mSo, bSo, GSo⟩ := hSo
  obtain ⟨fRo, dRo, mRo, bRo, GRo⟩ := hRo
  obtain ⟨fDg, dDg, gDg, kDg, bDg, GDg⟩ := hDg
  refine F.okX scPl (fun vs H Q E h => ?_) (fun cdv A outer s H vs Q E hr h => ?_)
  · obtain ⟨p, x, y, r, rfl, _⟩ := h
    rfl
  · refine ⟨_, (pss_cons (ps_if (pt_val (pe_meth (pv 0) T.cl mTa GTa (hr.mono (by omega)) bTa .nil pass0 (pa_cons pe_str pa_nil))) (pss_cons (ps_set (i := 1) scPl.nd rfl (.inl rfl) (pe_callS GSu (hr.mono (by omega)) rfl gSu kSu bSu (fun σ => passAt (takes_of rfl rfl rfl rfl) σ) (by exact (pa_cons (pv 0) pa_nil))))
          (pss_cons (ps_expr (pe_meth (pv 0) T.cl mNe GNe (hr.mono (by omega)) bNe .nil (pass_of (takes_of rfl rfl rfl rfl)) (pa_cons pe_str pa_nil)))
          (pss_one (ps_ret (pv 1))))) pss_nil)
        (pss_cons (ps_if (pt_val (pe_meth (pv 0) T.cl mTa GTa (hr.mono (by omega)) bTa .nil pass0 (pa_cons pe_str pa_nil))) (pss_one (ps_ret (pe_tup (pa_cons pe_str (pa_cons (pe_callS GPc (hr.mono (by omega)) rfl gPc kPc bPc (fun σ => passAt (takes_of rfl rfl rfl rfl) σ) (by exact (pa_cons (pv 0) pa_nil))) pa_nil))))) pss_nil)
        (pss_cons (ps_if (pt_val (pe_meth (pv 0) T.cl mSo GSo (hr.mono (by omega)) bSo .nil pass0 (pa_cons (glob_str (by rfl) W.sta) pa_nil))) (pss_one (ps_ret (pe_tup (pa_cons pe_str (pa_cons (pe_meth (pv 0) T.cl mRo GRo (hr.mono (by omega)) bRo .nil pass0 (pa_cons (glob_str (by rfl) W.nam) pa_nil)) pa_nil))))) pss_nil)
        (pss_one (ps_ret (pe_tup (pa_cons pe_str (pa_cons (pe_callTy call_int_str (by rfl) B.int (by decide +kernel) (pa_cons (pe_callS GDg (hr.mono (by omega)) rfl gDg kDg bDg (fun σ => passAt (takes_of rfl rfl rfl rfl) σ) (by exact (pa_cons (pv 0) pa_nil))) pa_nil)) pa_nil)))))))), ?_⟩
    obtain ⟨p, x, y, r, rfl, S, rn, hw, O⟩ := h
    obtain ⟨k1, k0⟩ : Out C CU p x y H Q E (gTree K p) (plainF (rds n).sum r) := O
    obtain ⟨i, dx, hp, _⟩ := id S
    refine ⟨_, rfl, p, dx, _, rfl, hp, rfl, p, x, y, "(", r, rfl, S, by decide, fun e H1 m1 S1 => ⟨_, rfl, if_yes rfl ?_⟩, fun e => ⟨_, rfl, if_no rfl ?_⟩⟩
    · obtain ⟨l, rfl⟩ := (sees_one (c := 40) (by decide +kernel)).1 e
      have S1' : Sc C H1 p x y l := S1
      have hwl : wt (40 :: l) = 4 + wt l := wt_cons 40 l
      refine ⟨_, rfl, p, x, y, l, rfl, S1', rn.tail (p := [40]), by omega, fun t r2 et H2 v m2 S2 gd => ?_, fun et H2 m2 => k0 (plainF_40n fun t l z => by rw [et] at z; cases z) H2 (m1.trans m2)⟩
      obtain ⟨i2, dx2, hp2, _⟩ := id S2
      refine ⟨_, rfl, p, dx2, _, rfl, hp2, rfl, p, x, y, ")", r2, rfl, S2, by decide, fun e2 H3 m3 S3 => ⟨_, rfl, ?_⟩, fun e2 => ?_⟩
      · obtain ⟨l2, rfl⟩ := (sees_one (c := 41) (by decide +kernel)).1 e2
        exact k1 t l2 (plainF_40 et) H3 v ((m1.trans m2).trans m3) S3 (dp_mv gd m3)
      · refine k0 (plainF_40n fun t' l z => ?_) H2 (m1.trans m2)
        rw [et] at z
        cases z
        exact (sees_one (c := 41) (by decide +kernel)).2 e2 _ rfl
    have n40 := (sees_one (c := 40) (by decide +kernel)).2 e
    refine ⟨_, rfl, p, dx, _, rfl, hp, rfl, p, x, y, "$", r, rfl, S, by decide, fun e H1 m1 S1 => ⟨_, rfl, if_yes rfl ?_⟩, fun e => ⟨_, rfl, if_no rfl ?_⟩⟩
    · obtain ⟨l, rfl⟩ := (sees_one (c := 36) (by decide +kernel)).1 e
      have S1' : Sc C H1 p x y l := S1
      refine ⟨_, rfl, p, x, y, l, rfl, S1', fun d r2 ed H2 v m2 S2 gd => ?_, fun ed H2 m2 => k0 (plainF_36n ed) H2 (m1.trans m2)⟩
      subst gd
      refine ⟨(by decide : 2 ≤ sizeLine), fun T0 nT => ?_⟩
      have ne := S2.ne nT
      exact k1 (.of (st d)) r2 (plainF_36 ed) _ _ ((m1.trans m2).trans (Mv.same (same_upd nT))) (S2.same (same_upd nT)) (mk_tup nT ne (.cons (.str _) (.cons (.str _) .nil)))
    have n36 := (sees_one (c := 36) (by decide +kernel)).2 e
    have ep := plainF_else (sum := (rds n).sum) n40 n36
    refine ⟨_, rfl, p, dx, _, rfl, hp, rfl, p, x, y, staS, r, rfl, S, _, rfl, if_by (fun e => ?_) (fun e => ?_)⟩
    · rw [e, if_pos rfl] at ep
      refine ⟨_, rfl, p, dx, _, rfl, hp, rfl, p, x, y, namS, r, rfl, S, fun H1 m1 S1 => ?_⟩
      refine ⟨(by decide : 2 ≤ sizeLine), fun T0 nT => ?_⟩
      have ne := S1.ne nT
      exact k1 _ _ ep _ _ (m1.trans (Mv.same (same_upd nT))) (S1.same (same_upd nT)) (mk_tup nT ne (.cons (.str _) (.cons (.str _) .nil)))
    · rw [e, if_neg (by decide)] at ep
      refine ⟨_, rfl, p, x, y, r, rfl, S, fun d r2 ed H2 v m2 S2 gd => ?_, fun ed H2 m2 => k0 (by rw [ep, ed]) H2 m2⟩
      subst gd
      obtain ⟨a, b, c⟩ := dig_ate (k := 0) ed
      have ld : d.length ≤ 80 := rn [] d r2 a c
      refine ⟨st d, _, rfl, int_of (fun z => by rw [z] at b; exact absurd b (by decide)) c ld, by rw [len_st]; omega, ?_⟩
      refine ⟨(by decide : 2 ≤ sizeLine), fun T0 nT => ?_⟩
      have ne := S2.ne nT
      exact k1 (.num (digVal d)) r2 (by rw [ep, ed]) _ _ (m2.trans (Mv.same (same_upd nT))) (S2.same (same_upd nT)) (mk_tup nT ne (.cons (.str _) (.cons (.int _) .nil)))
abbrev sAh : Stmt := top 28
abbrev nAh : List Str := ["scanner", "tree"]
theorem scAh : FnScope nAh ["scanner"] (defScope sAh) := ⟨rfl, rfl, rfl, by decide +kernel, rfl, by decide +kernel, by decide +kernel⟩
theorem ok_Ah {f C CU : Addr} {fd : FuncData} (F : Fun K "ahead_at" "ahead_at" sAh f fd) (gAh : mg "ahead_at" = some (.ref f)) (bAh : Binds K fd ["scanner"] []) (T : Txt K mg C) (hTa : HasM P w K mg base C 2 "takes" ["self", "mark"] (spTa C)) (hRo : HasM P w K mg base C 2 "row_of" ["self", "some"] (spRo C))
    {n : Nat} {fPl : Addr} {dPl : FuncData} (gPl : mg "plain_at" = some (.ref fPl)) (kPl : PySem.W.keepIn K (.ref fPl) = true) (bPl : Binds K dPl ["scanner"] []) (GPl : FnOk P w K mg base (L2.CX P w) (n + 6) fPl dPl ["scanner"] (spPl K C CU n)) (GAh : FnOk P w K mg base (L2.CX P w) (n + 6) f fd ["scanner"] (spAh K C CU n)) :
    FnOk P w K mg base (L2.CX P w) (n + 7) f fd ["scanner"] (spAh K C CU (n + 1)) := by
  obtain ⟨fTa, dTa, mTa, bTa, GTa⟩ := hTa
  obtain ⟨fRo, dRo, mRo, bRo, GRo⟩ := hRo
  have kAh := F.kp
  refine F.okX scAh (fun vs H Q E h => ?_) (fun cdv A outer s H vs Q E hr h => ?_)
  · obtain ⟨p, x, y, r, rfl, _⟩ := h
    rfl
  · refine ⟨_, (pss_cons (ps_expr (pe_meth (pv 0) T.cl mRo GRo (hr.mono (by omega)) bRo .nil pass0 (pa_cons pe_str pa_nil)))
        (pss_cons (ps_if (pt_val (pe_meth (pv 0) T.cl mTa GTa (hr.mono (by omega)) bTa .nil pass0 (pa_cons pe_str pa_nil))) (pss_one (ps_ret (pe_tup (pa_cons pe_str (pa_cons (pe_callS GAh (hr.mono (by omega)) rfl gAh kAh bAh (fun σ => passAt (takes_of rfl rfl rfl rfl) σ) (by exact (pa_cons (pv 0) pa_nil))) pa_nil))))) pss_nil)
        (pss_cons (ps_if (pt_val (pe_meth (pv 0) T.cl mTa GTa (hr.mono (by omega)) bTa .nil pass0 (pa_cons pe_str pa_nil))) (pss_one (ps_ret (pe_tup (pa_cons pe_str (pa_cons (pe_callS GAh (hr.mono (by omega)) rfl gAh kAh bAh (fun σ => passAt (takes_of rfl rfl rfl rfl) σ) (by exact (pa_cons (pv 0) pa_nil))) pa_nil))))) pss_nil)
        (pss_cons (ps_set (i := 1) scAh.nd rfl (.inl rfl) (pe_callS GPl (hr.mono (by omega)) rfl gPl kPl bPl (fun σ => passAt (takes_of rfl rfl rfl rfl) σ) (by exact (pa_cons (pv 0) pa_nil))))
        (pss_cons (ps_expr (pe_meth (pv 0) T.cl mRo GRo (hr.mono (by omega)) bRo .nil pass0 (pa_cons pe_str pa_nil)))
        (pss_one (ps_ret (pv 1)))))))), ?_⟩
    obtain ⟨p, x, y, r, rfl, S, rn, hw, O⟩ := h
    obtain ⟨k1, k0⟩ : Out C CU p x y H Q E (gTree K p) (aheadF (rds n).ahead (rds n).plain r) := O
    obtain ⟨i, dx, hp, _⟩ := id S
    have hws : (fun c => decide (c ∈ cs (" \n" : Str))) = (fun c => decide (c ∈ wsC)) := by rw [show cs (" \n" : Str) = wsC by decide +kernel]
    obtain ⟨q0, e0⟩ := spc_pre r
    have rn1 : Rn 80 (spc r) := by rw [e0] at rn; exact rn.tail
    have hw1 : wt (spc r) ≤ wt r := by
      have z := congrArg wt e0
      rw [wt_app] at z
      omega
    refine ⟨_, rfl, p, dx, _, rfl, hp, rfl, p, x, y, " \n", r, rfl, S, fun H1 m1 S1 => ?_⟩
    rw [hws] at S1
    have S1 : Sc C H1 p x y (spc r) := S1
    obtain ⟨i1, dx1, hp1, _⟩ := id S1
    have sg : ∀ (s : Str) (c : Nat) (l : L), 1 ≤ wc c → spc r = c :: l → (aheadF (rds n).ahead (rds n).plain r = match (rds n).ahead l with
        | none => none
        | some (t, r2) => some (.one s t, r2)) → ∀ H2, Mv p H1 H2 → Sc C H2 p x y l → spAh K C CU n ([.ref p] ++ []) H2 (fun v H3 => [V.str s, v].length ≤ sizeLine ∧ ∀ T0, H3 T0 = none → Q (.ref T0) (L2.upd H3 T0 (.tup [.str s, v]))) E := by
      intro s c l hc el ea H2 m2 S2
      have hwl : wt (spc r) = wc c + wt l := by rw [el]; exact wt_cons c l
      refine ⟨p, x, y, l, rfl, S2, by rw [el] at rn1; exact rn1.tail (p := [c]), by omega, fun t r2 et H3 v m3 S3 gd => ⟨(by decide : 2 ≤ sizeLine), fun T0 nT => ?_⟩, fun et H3 m3 => k0 (by rw [ea, et]) H3 ((m1.trans m2).trans m3)⟩
      have ne := S3.ne nT
      exact k1 (.one s t) r2 (by rw [ea, et]) _ _ (((m1.trans m2).trans m3).trans (Mv.same (same_upd nT))) (S3.same (same_upd nT)) (mk_tup nT ne (.cons (.str _) (.cons gd .nil)))
    refine ⟨_, rfl, p, dx1, _, rfl, hp1, rfl, p, x, y, "-", spc r, rfl, S1, by decide, fun e H2 m2 S2 => ⟨_, rfl, if_yes rfl ?_⟩, fun e => ⟨_, rfl, if_no rfl ?_⟩⟩
    · obtain ⟨l, el⟩ := (sees_one (c := 45) (by decide +kernel)).1 e
      rw [el] at S2
      refine ⟨_, rfl, sg "minus" 45 l (by decide) el ?_ H2 m2 S2⟩
      unfold aheadF
      rw [el]
      rfl
    have n45 := (sees_one (c := 45) (by decide +kernel)).2 e
    refine ⟨_, rfl, p, dx1, _, rfl, hp1, rfl, p, x, y, "!", spc r, rfl, S1, by decide, fun e H2 m2 S2 => ⟨_, rfl, if_yes rfl ?_⟩, fun e => ⟨_, rfl, if_no rfl ?_⟩⟩
    · obtain ⟨l, el⟩ := (sees_one (c := 33) (by decide +kernel)).1 e
      rw [el] at S2
      refine ⟨_, rfl, sg "no" 33 l (by decide) el ?_ H2 m2 S2⟩
      unfold aheadF
      rw [el]
      rfl
    have n33 := (sees_one (c := 33) (by decide +kernel)).2 e
    have ea : aheadF (rds n).ahead (rds n).plain r = match (rds n).plain (spc r) with
        | none => none
        | some (t, r2) => some (t, spc r2) := by
      unfold aheadF
      split
      · rename_i e; exact (n45 _ e).elim
      · rename_i e; exact (n33 _ e).elim
      · rfl
    refine ⟨_, rfl, p, x, y, spc r, rfl, S1, rn1, by omega, fun t r2 et H2 v m2 S2 gd => ?_, fun et H2 m2 => k0 (by rw [ea, et]) H2 (m1.trans m2)⟩
    obtain ⟨i2, dx2, hp2, _⟩ := id S2
    refine ⟨_, rfl, p, dx2, _, rfl, hp2, rfl, p, x, y, " \n", r2, rfl, S2, fun H3 m3 S3 => ?_⟩
    rw [hws] at S3
    exact ⟨_, rfl, k1 t (spc r2) (by rw [ea, et]) H3 v ((m1.trans m2).trans m3) S3 (dp_mv gd m3)⟩
end
end Qb
end PySem
namespace PySem
namespace Qb
open PySem.W PySem.Calls PyProof.Rows L2
theorem loopW_stop {two : Nat → Rd} {m l : Nat} {t : Sm} {r : L} (h : ∀ q, tpSign r = some q → ¬ l ≤ rk q.1) : loopW two (m + 1) l t r = some (t, r) := by
  unfold loopW
  cases e : tpSign r with
  | none => rfl
  | some q =>
    dsimp only
    rw [if_neg (h q e)]
theorem loopW_step {two : Nat → Rd} {m l : Nat} {t : Sm} {r : L} {q : Str × L} (h : tpSign r = some q) (hl : l ≤ rk q.1) : loopW two (m + 1) l t r = match two (rk q.1 + 1) (r.drop q.2.length) with
    | none => none
    | some (u, r2) => loopW two m l (.two q.1 t u) r2 := by
  have e : loopW two (m + 1) l t r = match tpSign r with
    | none => some (t, r)
    | some p => if l ≤ rk p.1 then (match two (rk p.1 + 1) (r.drop p.2.length) with
        | none => none
        | some (u, r2) => loopW two m l (.two p.1 t u) r2) else some (t, r) := rfl
  rw [e, h]
  dsimp only
  rw [if_pos hl]
theorem sumF_n1 {sum : Rd} {two : Nat → Rd} {r : L} (h1 : two 2 r = none) : sumF sum two r = none := by
  unfold sumF
  rw [h1]
theorem sumF_1 {sum : Rd} {two : Nat → Rd} {r r1 : L} {t : Sm} (h1 : two 2 r = some (t, r1)) (h : ∀ l, r1 ≠ 63 :: l) : sumF sum two r = some (t, r1) := by
  unfold sumF
  rw [h1]
  split
  · rename_i e; cases e
  · rename_i e
    cases e
    exact (h _ rfl).elim
  · rename_i e
    cases e
    rfl
theorem sumF_n2 {sum : Rd} {two : Nat → Rd} {r r2 : L} {t : Sm} (h1 : two 2 r = some (t, 63 :: r2)) (h2 : ∀ a l, sum r2 ≠ some (a, 58 :: l)) : sumF sum two r = none := by
  unfold sumF
  rw [h1]
  show (match sum r2 with
    | some (a, 58 :: r3) => (match sum r3 with
      | none => none
      | some (b, r4) => some (Sm.three "choose" t a b, r4))
    | _ => none) = _
  split
  · rename_i e; exact (h2 _ _ e).elim
  · rfl
theorem sumF_n3 {sum : Rd} {two : Nat → Rd} {r r2 r3 : L} {t a : Sm} (h1 : two 2 r = some (t, 63 :: r2)) (h2 : sum r2 = some (a, 58 :: r3)) (h3 : sum r3 = none) : sumF sum two r = none := by
  unfold sumF
  rw [h1]
  show (match sum r2 with
    | some (a, 58 :: r3) => (match sum r3 with
      | none => none
      | some (b, r4) => some (Sm.three "choose" t a b, r4))
    | _ => none) = _
  rw [h2]
  show (match sum r3 with
      | none => none
      | some (b, r4) => some (Sm.three "choose" t a b, r4)) = _
  rw [h3]
section
variable {P : Program} {w : World} {K : Frag} {mg : Str → Option Value} {base : Heap}
abbrev sSu : Stmt := top 25
abbrev nSu : List Str := ["scanner", "test", "one"]
theorem scSu : FnScope nSu ["scanner"] (defScope sSu) := ⟨rfl, rfl, rfl, by decide +kernel, rfl, by decide +kernel, by decide +kernel⟩
theorem ok_Su {f C CU : Addr} {fd : FuncData} (F : Fun K "sum_at" "sum_at" sSu f fd) (gSu : mg "sum_at" = some (.ref f)) (bSu : Binds K fd ["scanner"] []) (W : Wrt K w mg) (T : Txt K mg C) (hTa : HasM P w K mg base C 2 "takes" ["self", "mark"] (spTa C)) (hNe : HasMX P w K mg base C 4 "need" ["self", "mark"] (spNe C CU))
    {n : Nat} {fTw : Addr} {dTw : FuncData} (gTw : mg "two_parts_at" = some (.ref fTw)) (kTw : PySem.W.keepIn K (.ref fTw) = true) (bTw : Binds K dTw ["scanner", "least"] []) (GTw : FnOk P w K mg base (L2.CX P w) (n + 6) fTw dTw ["scanner", "least"] (spTwn K C CU n)) (GSu : FnOk P w K mg base (L2.CX P w) (n + 6) f fd ["scanner"] (spSu K C CU n)) :
    FnOk P w K mg base (L2.CX P w) (n + 7) f fd ["scanner"] (spSu K C CU (n + 1)) := by
  obtain ⟨fTa, dTa, mTa, bTa, GTa⟩ := hTa
  obtain ⟨fNe, dNe, mNe, bNe, GNe⟩ := hNe
  have kSu := F.kp
  obtain ⟨is, itw, _, _⟩ := rds_ate (k := 80) (Nat.le_refl _) n
  refine F.okX scSu (fun vs H Q E h => ?_) (fun cdv A outer s H vs Q E hr h => ?_)
  · obtain ⟨p, x, y, r, rfl, _⟩ := h
    rfl
  · refine ⟨_, (pss_cons (ps_set (i := 1) scSu.nd rfl (.inl rfl) (pe_callS GTw (hr.mono (by omega)) rfl gTw kTw bTw (fun σ => passAt (takes_of rfl rfl rfl rfl) σ) (by exact (pa_cons (pv 0) (pa_cons (pe_op op_add (glob_int (by rfl) W.cr) pe_int) pa_nil)))))
        (pss_cons (ps_if (pt_not (pt_val (pe_meth (pv 0) T.cl mTa GTa (hr.mono (by omega)) bTa .nil pass0 (pa_cons pe_str pa_nil)))) (pss_one (ps_ret (pv 1))) pss_nil)
        (pss_cons (ps_set (i := 2) scSu.nd rfl (.inl rfl) (pe_callS GSu (hr.mono (by omega)) rfl gSu kSu bSu (fun σ => passAt (takes_of rfl rfl rfl rfl) σ) (by exact (pa_cons (pv 0) pa_nil))))
        (pss_cons (ps_expr (pe_meth (pv 0) T.cl mNe GNe (hr.mono (by omega)) bNe .nil (pass_of (takes_of rfl rfl rfl rfl)) (pa_cons pe_str pa_nil)))
        (pss_one (ps_ret (pe_tup (pa_cons pe_str (pa_cons (pv 1) (pa_cons (pv 2) (pa_cons (pe_callS GSu (hr.mono (by omega)) rfl gSu kSu bSu (fun σ => passAt (takes_of rfl rfl rfl rfl) σ) (by exact (pa_cons (pv 0) pa_nil))) pa_nil))))))))))), ?_⟩
    obtain ⟨p, x, y, r, rfl, S, rn, hw, O⟩ := h
    obtain ⟨k1, k0⟩ : Out C CU p x y H Q E (gTree K p) (sumF (rds n).sum (rds n).two r) := O
    refine ⟨_, rfl, _, _, rfl, rfl, p, x, y, r, 2, rfl, S, rn, by omega, by decide, fun t r1 et H1 v m1 S1 gd => ?_, fun et H1 m1 => k0 (sumF_n1 et) H1 m1⟩
    obtain ⟨⟨q, A1⟩, _⟩ := itw 2 r t r1 (by decide) rn et
    have w1 := A1.wt
    have rn1 := A1.rn rn
    obtain ⟨i1, dx1, hp1, _⟩ := id S1
    refine ⟨_, rfl, p, dx1, _, rfl, hp1, rfl, p, x, y, "?", r1, rfl, S1, by decide, fun e H2 m2 S2 => ⟨_, rfl, if_no rfl ?_⟩, fun e => ⟨_, rfl, if_yes rfl ⟨_, rfl, ?_⟩⟩⟩
    · obtain ⟨r2, rfl⟩ := (sees_one (c := 63) (by decide +kernel)).1 e
      have S2 : Sc C H2 p x y r2 := S2
      have w2' : wt (63 :: r2) = 1 + wt r2 := wt_cons 63 r2
      have rn2 : Rn 80 r2 := rn1.tail (p := [63])
      refine ⟨_, rfl, p, x, y, r2, rfl, S2, rn2, by omega, fun a r3 ea H3 u m3 S3 gu => ?_, fun ea H3 m3 => k0 (sumF_n2 et fun a l z => by rw [ea] at z; cases z) H3 ((m1.trans m2).trans m3)⟩
      obtain ⟨q2, A2⟩ := is r2 a r3 rn2 ea
      have w3 := A2.wt
      obtain ⟨i3, dx3, hp3, _⟩ := id S3
      refine ⟨_, rfl, p, dx3, _, rfl, hp3, rfl, p, x, y, ":", r3, rfl, S3, by decide, fun e3 H4 m4 S4 => ?_, fun e3 => ?_⟩
      · obtain ⟨r4, rfl⟩ := (sees_one (c := 58) (by decide +kernel)).1 e3
        have S4 : Sc C H4 p x y r4 := S4
        have w4 : wt (58 :: r4) = 1 + wt r4 := wt_cons 58 r4
        have rn4 : Rn 80 r4 := (A2.rn rn2).tail (p := [58])
        refine ⟨_, rfl, _, rfl, _, rfl, p, x, y, r4, rfl, S4, rn4, by omega, fun b r5 eb H5 z m5 S5 gz => ⟨(by decide : 4 ≤ sizeLine), fun T0 nT => ?_⟩, fun eb H5 m5 => k0 (sumF_n3 et ea eb) H5 ((((m1.trans m2).trans m3).trans m4).trans m5)⟩
        have ne := S5.ne nT
        exact k1 (.three "choose" t a b) r5 (sumF_63 et ea eb) _ _ (((((m1.trans m2).trans m3).trans m4).trans m5).trans (Mv.same (same_upd nT))) (S5.same (same_upd nT))
          (mk_tup nT ne (.cons (.str _) (.cons (dp_mv gd (((m2.trans m3).trans m4).trans m5)) (.cons (dp_mv gu (m4.trans m5)) (.cons gz .nil)))))
      · refine k0 (sumF_n2 et fun a' l z => ?_) H3 ((m1.trans m2).trans m3)
        rw [ea] at z
        cases z
        exact (sees_one (c := 58) (by decide +kernel)).2 e3 _ rfl
    · exact k1 t r1 (sumF_1 et ((sees_one (c := 63) (by decide +kernel)).2 e)) H1 v m1 S1 gd
abbrev sTw : Stmt := top 26
abbrev nTw : List Str := ["scanner", "least", "tree", "sign"]
theorem scTw : FnScope nTw ["scanner", "least"] (defScope sTw) := ⟨rfl, rfl, rfl, by decide +kernel, rfl, by decide +kernel, by decide +kernel⟩
theorem ok_Tw {f C CU : Addr} {fd : FuncData} (F : Fun K "two_parts_at" "two_parts_at" sTw f fd) (gTw : mg "two_parts_at" = some (.ref f)) (bTw : Binds K fd ["scanner", "least"] []) (W : Wrt K w mg) (T : Txt K mg C) (hTs : Has P w K mg base 2 "two_part_sign" ["scanner"] (spTs C)) (hNe : HasMX P w K mg base C 4 "need" ["self", "mark"] (spNe C CU))
    {n : Nat} {fAh : Addr} {dAh : FuncData} (gAh : mg "ahead_at" = some (.ref fAh)) (kAh : PySem.W.keepIn K (.ref fAh) = true) (bAh : Binds K dAh ["scanner"] []) (GAh : FnOk P w K mg base (L2.CX P w) (n + 6) fAh dAh ["scanner"] (spAh K C CU n)) (GTw : FnOk P w K mg base (L2.CX P w) (n + 6) f fd ["scanner", "least"] (spTwn K C CU n)) :
    FnOk P w K mg base (L2.CX P w) (n + 7) f fd ["scanner", "least"] (spTwn K C CU (n + 1)) := by
  obtain ⟨fTs, dTs, gTs, kTs, bTs, GTs⟩ := hTs
  obtain ⟨fNe, dNe, mNe, bNe, GNe⟩ := hNe
  obtain ⟨dR, eR, nR, gR, DR, ns⟩ := W.rks
  have kTw := F.kp
  obtain ⟨_, itw, iah, _⟩ := rds_ate (k := 80) (Nat.le_refl _) n
  refine F.okX scTw (fun vs H Q E h => ?_) (fun cdv A outer s H vs Q E hr h => ?_)
  · obtain ⟨p, x, y, r, l, rfl, _⟩ := h
    rfl
  · refine ⟨_, (pss_cons (ps_set (i := 2) scTw.nd rfl (.inl rfl) (pe_callS GAh (hr.mono (by omega)) rfl gAh kAh bAh (fun σ => passAt (takes_of rfl rfl rfl rfl) σ) (by exact (pa_cons (pv 0) pa_nil))))
        (pss_cons (ps_set (i := 3) scTw.nd rfl (.inl rfl) (pe_call GTs (hr.mono (by omega)) rfl gTs kTs bTs .nil pass0 (pa_cons (pv 0) pa_nil)))
        (pss_cons (ps_while (passes_of rfl) (PW.pt (pw_and (pt_cmpR op_ne (pv 3) pe_str (nomark _)) (pw_and1 (pt_cmpR op_ge (pe_ix ix_kdict (pe_glob (v := .ref dR) (by rfl) gR rfl) (pv 3) (fun _ _ => rfl)) (pv 1) (nomark _))))) (pss_cons (ps_expr (pe_meth (pv 0) T.cl mNe GNe (hr.mono (by omega)) bNe .nil (pass_of (takes_of rfl rfl rfl rfl)) (pa_cons (pv 3) pa_nil)))
          (pss_cons (ps_set (i := 2) scTw.nd rfl (.inl rfl) (pe_tup (pa_cons (pv 3) (pa_cons (pv 2) (pa_cons (pe_callS GTw (hr.mono (by omega)) rfl gTw kTw bTw (fun σ => passAt (takes_of rfl rfl rfl rfl) σ) (by exact (pa_cons (pv 0) (pa_cons (pe_op op_add (pe_ix ix_kdict (pe_glob (v := .ref dR) (by rfl) gR rfl) (pv 3) (fun _ _ => rfl)) pe_int) pa_nil)))) pa_nil)))))
          (pss_one (ps_set (i := 3) scTw.nd rfl (.inl rfl) (pe_call GTs (hr.mono (by omega)) rfl gTs kTs bTs .nil pass0 (pa_cons (pv 0) pa_nil)))))))
        (pss_one (ps_ret (pv 2)))))), ?_⟩
    obtain ⟨p, x, y, r, l, rfl, S, rn, hw, hl, O⟩ := h
    obtain ⟨k1, k0⟩ : Out C CU p x y H Q E (gTree K p) (twoF (rds n).two (rds n).ahead l r) := O
    have e2 : ∀ t r1, (rds n).ahead r = some (t, r1) → twoF (rds n).two (rds n).ahead l r = loopW (rds n).two (r1.length + 1) l t r1 := fun t r1 e => by
      unfold twoF
      rw [e]
    refine ⟨_, rfl, p, x, y, r, rfl, S, rn, by omega, fun t r1 et H1 v m1 S1 gd => ?_, fun et H1 m1 => k0 (by unfold twoF; rw [et]) H1 m1⟩
    obtain ⟨q, A1⟩ := iah r t r1 rn et
    have w1 := A1.wt
    have rn1 := A1.rn rn
    refine ⟨_, rfl, p, x, y, r1, rfl, S1, ?_⟩
    refine while_n (fun m σ H' => ∃ (t' : Sm) (r' : L) (v' : V), σ = [some (.ref p), some (.int (l : Nat)), some v', some (.str (signOf r'))] ∧ Mv p H H' ∧ Sc C H' p x y r' ∧ gTree K p t' v' H' ∧ Rn 80 r' ∧ wt r' ≤ wt r1 ∧ r'.length ≤ m ∧ twoF (rds n).two (rds n).ahead l r = loopW (rds n).two (m + 1) l t' r') r1.length ⟨t, r1, v, rfl, m1, S1, gd, rn1, Nat.le_refl _, Nat.le_refl _, e2 t r1 et⟩ (fun m σ H' e => ?_)
    obtain ⟨t', r', v', rfl, m', S', gd', rn', w', lm, el⟩ := e
    refine ⟨_, rfl, rfl, _, rfl, ?_⟩
    cases es : tpSign r' with
    | none =>
      have e0 : signOf r' = "" := by unfold signOf; rw [es]
      rw [e0]
      refine if_no (show (!decide (V.str ("" : Str) = V.str ("" : Str))) = false by decide +kernel) (if_no rfl ⟨_, rfl, ?_⟩)
      exact k1 t' r' (by rw [el]; exact loopW_stop fun q z => by rw [es] at z; cases z) H' v' m' S' gd'
    | some q =>
      have e0 : signOf r' = q.1 := by unfold signOf; rw [es]
      obtain ⟨mq, r2, er, ed⟩ := tpSign_mem es
      have hq := tpk_op q mq
      have hn : q.1 ≠ "" := (by decide +kernel : ∀ q ∈ tpk, q.1 ≠ "") q mq
      obtain ⟨tk, etk⟩ := (ns q.1).2 hq.1
      rw [e0]
      refine if_yes (by rw [decide_eq_false fun z => hn (V.str.inj z)]; rfl) ⟨_, rfl, ⟨dR, q.1, .int (rk q.1 : Nat), rfl, rfl, ⟨eR, nR, _, DR.at_, DR.lit, etk, ⟨tk, rfl⟩⟩, _, rfl, _, _, rfl, rfl, _, rfl, ?_⟩⟩
      by_cases c : l ≤ rk q.1
      · have wr : wt r' = wt q.2 + wt r2 := by rw [er, wt_app]
        have wq := tpk_wt q mq
        have rn2 : Rn 80 r2 := by rw [er] at rn'; exact rn'.tail
        have lr : r'.length = q.2.length + r2.length := by rw [er, List.length_append]
        have lq := (tpk_w2 q mq).2
        obtain ⟨i3, dx3, hp3, _⟩ := id S'
        refine if_yes (decide_eq_true (by omega)) ⟨_, fun σ' H' z => z, ?_⟩
        refine ⟨_, rfl, p, dx3, _, rfl, hp3, rfl, _, rfl, p, x, y, q.1, r', rfl, S', (by decide +kernel : ∀ q ∈ tpk, q.1.length ≤ 1000) q mq, fun e3 H4 m4 S4 => ?_, fun e3 => ?_⟩
        · rw [tpk_cs q mq, ed] at S4
          refine ⟨_, rfl, _, rfl, _, rfl, _, rfl, dR, q.1, .int (rk q.1 : Nat), rfl, rfl, ⟨eR, nR, _, DR.at_, DR.lit, etk, ⟨tk, rfl⟩⟩, _, _, rfl, rfl, ?_⟩
          refine ⟨p, x, y, r2, rk q.1 + 1, rfl, S4, rn2, by omega, by omega, fun u r3 eu H5 z m5 S5 gz => ⟨(by decide : 3 ≤ sizeLine), fun T0 nT => ?_⟩, fun eu H5 m5 => k0 ?_ H5 ((m'.trans m4).trans m5)⟩
          · have ne := S5.ne nT
            have st := loopW_step (two := (rds n).two) (m := m) (t := t') es c
            rw [ed, eu] at st
            obtain ⟨⟨q5, A5⟩, _⟩ := itw (rk q.1 + 1) r2 u r3 (by omega) rn2 eu
            have w5 := A5.wt
            have l5 : r3.length ≤ r2.length := by
              have := congrArg List.length A5.eq
              rw [List.length_append] at this
              omega
            have S6 := S5.same (same_upd (o := .tup [.str q.1, v', z]) nT)
            refine ⟨_, rfl, p, x, y, r3, rfl, S6, ?_⟩
            obtain ⟨m2, rfl⟩ : ∃ m2, m = m2 + 1 := ⟨m - 1, by omega⟩
            exact ⟨m2, by omega, .two q.1 t' u, r3, .ref T0, rfl, ((m'.trans m4).trans m5).trans (Mv.same (same_upd nT)), S6, mk_tup nT ne (.cons (.str _) (.cons (dp_mv gd' (m4.trans m5)) (.cons gz .nil))), A5.rn rn2, by omega, by omega, by rw [el, st]⟩
          · have st := loopW_step (two := (rds n).two) (m := m) (t := t') es c
            rw [ed, eu] at st
            rw [el, st]
        · have yes : seesB q.1 r' = true := by
            rw [seesB_tpk mq, er]
            exact List.isPrefixOf_iff_prefix.mpr ⟨r2, rfl⟩
          rw [yes] at e3
          cases e3
      · refine if_no (decide_eq_false (by omega)) ⟨_, rfl, ?_⟩
        exact k1 t' r' (by rw [el]; exact loopW_stop fun q' z => by rw [es] at z; cases z; exact c) H' v' m' S' gd'
end
end Qb
end PySem
namespace PySem
namespace Qb
open PySem.W PySem.Calls PyProof.Rows L2
/-- a text is read -/
def rdAll (n : Nat) (l : L) : Option Sm := match (rds n).sum l with
  | some (t, []) => some t
  | _ => none
theorem rdAll_some {n : Nat} {l : L} {t : Sm} (h : (rds n).sum l = some (t, [])) : rdAll n l = some t := by
  unfold rdAll
  rw [h]
theorem rdAll_none {n : Nat} {l : L} (h : ∀ t, (rds n).sum l ≠ some (t, [])) : rdAll n l = none := by
  unfold rdAll
  split
  · rename_i e; exact (h _ e).elim
  · rfl
/-- what the readers ask of a text -/
structure Fit (n : Nat) (x : Str) : Prop where
  len : x.length ≤ 90000
  rn : Rn 80 (cs x)
  wt : wt (cs x) + 4 ≤ n
def spRs (K : Frag) (CU : Addr) (n : Nat) : Sp := fun vs H Q E => ∃ (x : Str), vs = [.str x] ∧ Fit n x ∧
  (∀ t, rdAll n (cs x) = some t → ∀ H' v, Same H H' → Dp K H' v t.d → Q v H') ∧ (rdAll n (cs x) = none → ∀ H', Same H H' → RaisesU E CU x H')
section
variable {P : Program} {w : World} {K : Frag} {mg : Str → Option Value} {base : Heap}
structure Rdrs (P : Program) (w : World) (K : Frag) (mg : Str → Option Value) (base : Heap) (C CU fSu fTw fAh fPl : Addr) (dSu dTw dAh dPl : FuncData) (n : Nat) : Prop where
  su : FnOk P w K mg base (L2.CX P w) (n + 6) fSu dSu ["scanner"] (spSu K C CU n)
  tw : FnOk P w K mg base (L2.CX P w) (n + 6) fTw dTw ["scanner", "least"] (spTwn K C CU n)
  ah : FnOk P w K mg base (L2.CX P w) (n + 6) fAh dAh ["scanner"] (spAh K C CU n)
  pl : FnOk P w K mg base (L2.CX P w) (n + 6) fPl dPl ["scanner"] (spPl K C CU n)
theorem ok_rdrs {C CU fSu fTw fAh fPl : Addr} {dSu dTw dAh dPl : FuncData} (FSu : Fun K "sum_at" "sum_at" sSu fSu dSu) (gSu : mg "sum_at" = some (.ref fSu)) (bSu : Binds K dSu ["scanner"] []) (FTw : Fun K "two_parts_at" "two_parts_at" sTw fTw dTw) (gTw : mg "two_parts_at" = some (.ref fTw)) (bTw : Binds K dTw ["scanner", "least"] [])
    (FAh : Fun K "ahead_at" "ahead_at" sAh fAh dAh) (gAh : mg "ahead_at" = some (.ref fAh)) (bAh : Binds K dAh ["scanner"] []) (FPl : Fun K "plain_at" "plain_at" sPl fPl dPl) (gPl : mg "plain_at" = some (.ref fPl)) (bPl : Binds K dPl ["scanner"] []) (B : Blt mg) (W : Wrt K w mg) (T : Txt K mg C)
    (hTa : HasM P w K mg base C 2 "takes" ["self", "mark"] (spTa C)) (hNe : HasMX P w K mg base C 4 "need" ["self", "mark"] (spNe C CU)) (hPc : HasX P w K mg base 5 "place_at" ["scanner"] (spPc C CU)) (hSo : HasM P w K mg base C 1 "sees_one_of" ["self", "some"] (spSo C)) (hRo : HasM P w K mg base C 2 "row_of" ["self", "some"] (spRo C)) (hDg : HasX P w K mg base 4 "digits_at" ["scanner"] (spDg C CU)) (hTs : Has P w K mg base 2 "two_part_sign" ["scanner"] (spTs C)) :
    ∀ n, Rdrs P w K mg base C CU fSu fTw fAh fPl dSu dTw dAh dPl n
  | 0 => by
    refine ⟨FSu.okX scSu (fun vs H Q E h => ?_) (fun cdv A outer s H vs Q E hr h => ?_), FTw.okX scTw (fun vs H Q E h => ?_) (fun cdv A outer s H vs Q E hr h => ?_), FAh.okX scAh (fun vs H Q E h => ?_) (fun cdv A outer s H vs Q E hr h => ?_), FPl.okX scPl (fun vs H Q E h => ?_) (fun cdv A outer s H vs Q E hr h => ?_)⟩
    · obtain ⟨p, x, y, r, _, _, _, hw, _⟩ := h; omega
    · obtain ⟨p, x, y, r, _, _, _, hw, _⟩ := h; omega
    · obtain ⟨p, x, y, r, l, _, _, _, hw, _⟩ := h; omega
    · obtain ⟨p, x, y, r, l, _, _, _, hw, _⟩ := h; omega
    · obtain ⟨p, x, y, r, _, _, _, hw, _⟩ := h; omega
    · obtain ⟨p, x, y, r, _, _, _, hw, _⟩ := h; omega
    · obtain ⟨p, x, y, r, _, _, _, hw, _⟩ := h; omega
    · obtain ⟨p, x, y, r, _, _, _, hw, _⟩ := h; omega
  | n + 1 => by
    have i := ok_rdrs FSu gSu bSu FTw gTw bTw FAh gAh bAh FPl gPl bPl B W T hTa hNe hPc hSo hRo hDg hTs n
    exact ⟨ok_Su FSu gSu bSu W T hTa hNe gTw FTw.kp bTw i.tw i.su, ok_Tw FTw gTw bTw W T hTs hNe gAh FAh.kp bAh i.ah i.tw, ok_Ah FAh gAh bAh T hTa hRo gPl FPl.kp bPl i.pl i.ah, ok_Pl FPl B W T hTa hNe hPc hSo hRo hDg gSu FSu.kp bSu i.su⟩
abbrev sRs : Stmt := top 40
abbrev nRs : List Str := ["text", "scanner", "tree"]
theorem scRs : FnScope nRs ["text"] (defScope sRs) := ⟨rfl, rfl, rfl, by decide +kernel, rfl, by decide +kernel, by decide +kernel⟩
theorem ok_Rs {f C CU fI : Addr} {fd : FuncData} (EGi : EG K fI) {mU : List Value} (TU : EC K mg fI "Unreadable" CU mU) {dI : FuncData} (GIn : FnOk P w K mg base CX0 1 fI dI ["self", "value"] (spInit K)) (bIn : Binds K dI ["self", "value"] []) (F : Fun K "read_sum" "read_sum" sRs f fd) (T : Txt K mg C) {fSc : Addr} {dSc : FuncData} (MSc : Mk K C fSc) (bSc : Binds K dSc ["self", "text", "whole"] []) (GSc : FnOk P w K mg base CX0 1 fSc dSc ["self", "text", "whole"] (spSc C))
    (hAe : HasM P w K mg base C 1 "is_at_end" ["self"] (spAe C)) {n : Nat} {fSu : Addr} {dSu : FuncData} (gSu : mg "sum_at" = some (.ref fSu)) (kSu : PySem.W.keepIn K (.ref fSu) = true) (bSu : Binds K dSu ["scanner"] []) (GSu : FnOk P w K mg base (L2.CX P w) (n + 6) fSu dSu ["scanner"] (spSu K C CU n)) :
    FnOk P w K mg base (L2.CX P w) (n + 7) f fd ["text"] (spRs K CU n) := by
  obtain ⟨fAe, dAe, mAe, bAe, GAe⟩ := hAe
  refine F.okX scRs (fun vs H Q E h => ?_) (fun cdv A outer s H vs Q E hr h => ?_)
  · obtain ⟨x, rfl, _⟩ := h
    rfl
  · refine ⟨_, (pss_cons (ps_set (i := 1) scRs.nd rfl (.inl rfl) (pe_make MSc GSc (hr.mono (by omega)) (by rfl) T.mgC bSc .nil pass0 (pa_cons (pv 0) (pa_cons (pv 0) pa_nil))))
        (pss_cons (ps_set (i := 2) scRs.nd rfl (.inl rfl) (pe_callS GSu hr rfl gSu kSu bSu (fun σ => passAt (takes_of rfl rfl rfl rfl) σ) (by exact (pa_cons (pv 1) pa_nil))))
        (pss_cons (ps_if (pt_not (pt_val (pe_meth0 (pv 1) T.cl mAe GAe (hr.mono (by omega)) bAe .nil pass0))) (pss_one (ps_raise rfl (takes_of rfl rfl rfl rfl) (pmk_oex TU.oex TU.iC EGi.tI GIn (hr.mono (by omega)) bIn .nil pass0 (by rfl) TU.gC (by exact (pa_cons (pv 0) pa_nil))))) pss_nil)
        (pss_one (ps_ret (pv 2)))))), ?_⟩
    obtain ⟨x, rfl, fx, k1, k0⟩ := h
    refine ⟨_, rfl, _, rfl, fun p dx np nd ne => ⟨p, dx, x, x, rfl, upd_same, fx.len, fun H1 m1 S1 => ⟨rfl, ?_⟩⟩⟩
    -- what was there before is there again
    have back : ∀ H', Mv p H1 H' → Same H (hide H' p) := fun H' m => by
      have z : Same H (hide (L2.upd (L2.upd H dx (.own p)) p (.ins C dx [])) p) := hide_of (same_upd2 (same_upd nd) np) np
      exact (z.trans m1).trans m
    refine ⟨_, rfl, p, x, x, cs x, rfl, S1, fx.rn, by have := fx.wt; omega, fun t r2 et H2 v m2 S2 gd => ?_, fun et H2 m2 => ?_⟩
    · obtain ⟨i2, dx2, hp2, _⟩ := id S2
      refine ⟨_, rfl, p, dx2, _, rfl, hp2, rfl, p, x, x, r2, rfl, S2, _, rfl, ?_⟩
      cases r2 with
      | nil => exact if_no rfl ⟨_, rfl, k1 t (rdAll_some et) H2 v ((back H2 m2).trans hide_same) (dp_same hide_same gd)⟩
      | cons c l =>
        refine if_yes rfl ⟨_, rfl, init_end TU.oex TU.no fun d nd' => ?_⟩
        exact k0 (rdAll_none fun t' z => by rw [et] at z; cases z) H2 ((back H2 m2).trans hide_same) d nd'
    · intro d nd'
      exact k0 (rdAll_none fun t' z => by rw [et] at z; cases z) H2 ((back H2 m2).trans hide_same) d nd'
end
end Qb
end PySem
namespace PySem
namespace Qb
open PySem.W PySem.Calls PyProof.Rows L2
abbrev sState : Stmt := top 42
abbrev sDraw : Stmt := top 43
abbrev sSig : Stmt := top 44
abbrev sNm : Stmt := top 46
/-- the state of the draws: its list at S, the rests at R -/
structure StAt (bu : Int) (H : Hp) (S R : Addr) (rs : List Int) (n : Nat) : Prop where
  at_ : H S = some (.lst [.ref R, .int n, .int 14, .int bu])
  rest : H R = some (.lst (rs.map V.int))
  full : rs ≠ []
  few : rs.length ≤ 64
  pos : ∀ r ∈ rs, 0 ≤ r
  soon : n ≤ 100000
  ne : S ≠ R
def spDraw : Sp := fun vs H Q _ => ∃ (S R : Addr) (rs : List Int) (n : Nat) (m bu : Int), vs = [.ref S, .int m] ∧ 0 < m ∧ m ≤ 10 ^ 30 ∧ n < 100000 ∧ StAt bu H S R rs n ∧
  ∀ (H' : Hp) (r : Int) (rs' : List Int), 0 ≤ r → r < m → StAt bu H' S R rs' (n + 1) → (∀ b, b ≠ S → b ≠ R → H' b = H b) → Q (.int r) H'
theorem scDraw : FnScope ["_law_state_here", "_law_many", "_law_at", "_law_worth", "_law_rests", "_law_one", "_law_two", "_law_three"] ["_law_state_here", "_law_many"] (defScope sDraw) :=
  ⟨rfl, rfl, rfl, by decide +kernel, rfl, by decide +kernel, by decide +kernel⟩
section
variable {P : Program} {w : World} {K : Frag} {mg : Str → Option Value} {base : Heap}
theorem sqH {H : Hp} {a : Addr} {xs : List V} (h : H a = some (.lst xs)) : SqL K H a xs := SqL.of h
theorem fmod_at {rs : List Int} {n : Nat} (hf : rs ≠ []) : ∃ j : Nat, j < rs.length ∧ ((n : Int).fmod (rs.length : Int)) = (j : Int) := by
  have h : 0 < rs.length := List.length_pos_iff.mpr hf
  refine ⟨n % rs.length, Nat.mod_lt _ h, ?_⟩
  rw [Int.fmod_eq_emod_of_nonneg _ (by omega)]
  simp
abbrev st1 (bu : Int) (H : Hp) (S R : Addr) (n : Nat) : Hp := upd H S (.lst [V.ref R, V.int (n + 1), V.int 14, V.int bu])
theorem upd_off {H : Hp} {a b : Addr} {o : HO} (h : b ≠ a) : upd H a o b = H b := upd_ne h
theorem ok_draw {f : Addr} {fd : FuncData} (F : Fun K "_law_draw" "_law_draw" sDraw f fd) (B : Blt mg) : FnOk P w K mg base CX0 1 f fd ["_law_state_here", "_law_many"] spDraw := by
  refine F.ok scDraw (fun vs H Q E h => ?_) (fun cdv A outer s H vs Q E hr h => ?_)
  · obtain ⟨S, R, rs, n, m, bu, rfl, _⟩ := h
    rfl
  · refine ⟨_, pss_cons (ps_set (i := 2) scDraw.nd rfl (.inl rfl) (pe_op op_modN (pe_callTy call_int1 (by rfl) B.int (by decide +kernel) (pa_cons (pe_ix ix_list (pv 0) pe_int (fun _ _ => rfl)) pa_nil))
          (pe_callB call_len (by rfl) B.len PySem.boot_len (pa_cons (pe_ix ix_list (pv 0) pe_int (fun _ _ => rfl)) pa_nil))))
      (pss_cons (ps_asg (pe_op op_add (pe_ix ix_list (pv 0) pe_int (fun _ _ => rfl)) pe_int) (pg_sub (pv 0) pe_int set_list))
      (pss_cons (ps_set (i := 3) scDraw.nd rfl (.inl rfl) (pe_ix ix_list (pe_ix ix_list (pv 0) pe_int (fun _ _ => rfl)) (pv 2) (fun _ _ => rfl)))
      (pss_cons (ps_if (pt_cmpR op_ge (pv 3) (pe_op op_pow pe_int pe_int) (nomark _))
          (pss_cons (ps_set (i := 4) scDraw.nd rfl (.inl rfl) (pe_ix ix_list (pv 0) pe_int (fun _ _ => rfl)))
          (pss_cons (ps_asg (pe_op op_fdivW (pv 3) (pv 1)) (pg_sub (pv 4) (pv 2) set_list))
          (pss_one (ps_ret (pe_op op_modN (pe_callTy call_int1 (by rfl) B.int (by decide +kernel) (pa_cons (pv 3) pa_nil)) (pv 1)))))) pss_nil)
      (pss_cons (ps_set (i := 5) scDraw.nd rfl (.inl rfl) (pe_op op_modN (pe_callTy call_int1 (by rfl) B.int (by decide +kernel)
          (pa_cons (pe_op op_add (pe_op op_add (pe_op op_mul (pv 3) pe_int) (pe_op op_mul (pe_ix ix_list (pv 0) pe_int (fun _ _ => rfl)) pe_int)) pe_int) pa_nil)) pe_int))
      (pss_cons (ps_set (i := 6) scDraw.nd rfl (.inl rfl) (pe_op op_modN (pe_callTy call_int1 (by rfl) B.int (by decide +kernel)
          (pa_cons (pe_op op_add (pe_op op_mul (pv 5) (pv 5)) (pe_op op_mul (pe_ix ix_list (pv 0) pe_int (fun _ _ => rfl)) pe_int)) pa_nil)) pe_int))
      (pss_cons (ps_set (i := 7) scDraw.nd rfl (.inl rfl) (pe_op op_modN (pe_callTy call_int1 (by rfl) B.int (by decide +kernel)
          (pa_cons (pe_op op_add (pe_op op_mul (pv 6) pe_int) (pv 5)) pa_nil)) pe_int))
      (pss_one (ps_ret (pe_op op_modN (pe_callTy call_int1 (by rfl) B.int (by decide +kernel) (pa_cons (pe_op op_fdiv (pv 7) pe_int) pa_nil)) (pv 1)))))))))), ?_⟩
    obtain ⟨S, R, rs, n, m, bu, rfl, m0, m1, n0, T, k⟩ := h
    obtain ⟨hS, hR, hf, hl, hp, hn, hne⟩ := T
    obtain ⟨j, hj, ej⟩ : ∃ j : Nat, j < rs.length ∧ ((n : Int).fmod (rs.length : Int)) = (j : Int) := fmod_at hf
    have lm : (rs.map V.int).length = rs.length := List.length_map ..
    have ln0 : ((rs.length : Nat) : Int) ≠ 0 := by
      have : 0 < rs.length := List.length_pos_iff.mpr hf
      omega
    -- where the draw stands, and its number put on
    refine ⟨_, rfl, S, _, _, _, rfl, rfl, sqH hS, rfl, .inl ⟨_, rfl, _, rfl, S, _, _, _, rfl, rfl, sqH hS, rfl, _, rs.length, rfl, .inl ⟨_, sqH hR, lm.symm⟩, _, _, rfl, rfl, ln0, ?_⟩⟩
    refine ⟨_, rfl, S, _, _, _, rfl, rfl, sqH hS, rfl, _, _, rfl, rfl, _, rfl, S, _, _, _, rfl, rfl, hS, rfl, ?_⟩
    have hS1 : (st1 bu H S R n) S = some (.lst [V.ref R, V.int (n + 1), V.int 14, V.int bu]) := upd_same
    have hR1 : (st1 bu H S R n) R = some (.lst (rs.map V.int)) := by
      show upd _ _ _ R = _
      rw [upd_ne (Ne.symm hne)]
      exact hR
    have off1 : ∀ b, b ≠ S → b ≠ R → (st1 bu H S R n) b = H b := fun b h1 _ => upd_ne h1
    have hw : rs[j]? = some rs[j] := List.getElem?_eq_getElem hj
    have w0 : 0 ≤ rs[j] := hp _ (List.getElem_mem hj)
    generalize rs[j] = wv at hw w0
    have hwV : (rs.map V.int)[j]? = some (V.int wv) := by rw [List.getElem?_map, hw]; rfl
    have hat : atI (rs.map V.int) ((n : Int).fmod (rs.length : Int)) = some (V.int wv) := by
      rw [ej]
      exact atI_nat hwV
    have hix : ixN (rs.map V.int).length ((n : Int).fmod (rs.length : Int)) = some j := by
      rw [ej, lm]
      exact ixN_of hj
    have T1 : StAt bu (st1 bu H S R n) S R rs (n + 1) := ⟨hS1, hR1, hf, hl, hp, by omega, hne⟩
    refine ⟨_, rfl, S, _, _, _, rfl, rfl, sqH hS1, rfl, _, rfl, R, _, _, _, rfl, rfl, sqH hR1, hat, ?_⟩
    refine ⟨_, rfl, _, _, rfl, rfl, ⟨by decide, by decide, by decide⟩, _, _, rfl, rfl, _, rfl, ?_⟩
    refine ite2 (fun _ => ?_) (fun _ => ?_)
    · -- a great rest is divided
      refine ⟨_, rfl, S, _, _, _, rfl, rfl, sqH hS1, rfl, ?_⟩
      refine ⟨_, rfl, _, rfl, _, _, rfl, rfl, wide_div (b := 200) m0 (by omega) (by decide) (by decide), _, rfl, _, rfl, R, _, _, _, rfl, rfl, hR1, hix, ?_⟩
      refine ⟨_, rfl, .inl ⟨_, rfl, _, rfl, _, _, rfl, rfl, Int.ne_of_gt m0, ?_⟩⟩
      refine k _ _ (rs.set j (wv / m)) (fm0 m0 _) (fm1 m0 _) ⟨?_, ?_, ?_, ?_, ?_, by omega, hne⟩ (fun b h1 h2 => ?_)
      · rw [upd_ne hne]
        exact T1.at_
      · rw [List.map_set]
        exact upd_same
      · intro e
        have := congrArg List.length e
        rw [List.length_set] at this
        exact hf (List.length_eq_zero_iff.mp this)
      · rw [List.length_set]
        exact hl
      · intro r hr
        rcases List.mem_or_eq_of_mem_set hr with h | h
        · exact hp r h
        · rw [h]
          exact Int.ediv_nonneg w0 (by omega)
      · rw [upd_ne h2]
        exact off1 b h1 h2
    · -- otherwise it is mixed
      have one0 : 0 ≤ (wv * 48271 + ((n : Int) + 1) * 69621 + 17).fmod 2147483647 := fm0 (by decide) _
      have one1 : (wv * 48271 + ((n : Int) + 1) * 69621 + 17).fmod 2147483647 < 2147483647 := fm1 (by decide) _
      refine ⟨_, rfl, _, _, rfl, rfl, .inr ⟨by decide, by decide⟩, _, rfl, S, _, _, _, rfl, rfl, sqH hS1, rfl, _, _, rfl, rfl, .inr ⟨by decide, by decide⟩, _, _, rfl, rfl, _, _, rfl, rfl, .inl ⟨_, rfl, _, _, rfl, rfl, (by show (_ : Int) ≠ 0; decide), ?_⟩⟩
      refine ⟨_, rfl, _, rfl, _, _, rfl, rfl, .inl ⟨Int.lt_of_lt_of_le (by decide) one0, Int.lt_trans one1 (by decide)⟩, _, rfl, S, _, _, _, rfl, rfl, sqH hS1, rfl, _, _, rfl, rfl, .inr ⟨by decide, by decide⟩, _, _, rfl, rfl, .inl ⟨_, rfl, _, _, rfl, rfl, (by show (_ : Int) ≠ 0; decide), ?_⟩⟩
      refine ⟨_, rfl, _, _, rfl, rfl, .inr ⟨by decide, by decide⟩, _, rfl, _, _, rfl, rfl, .inl ⟨_, rfl, _, _, rfl, rfl, (by show (_ : Int) ≠ 0; decide), ?_⟩⟩
      refine ⟨_, rfl, _, _, rfl, rfl, ⟨by decide, by decide⟩, .inl ⟨_, rfl, _, rfl, _, _, rfl, rfl, Int.ne_of_gt m0, ?_⟩⟩
      exact k _ _ rs (fm0 m0 _) (fm1 m0 _) T1 off1
end
def cellOf (c : Int) : Int := 2 * (if c < 0 then -c else c) + (if decide (c < 0) = true then 1 else 0)
theorem cellOf_pos (c : Int) : 0 ≤ cellOf c := by
  unfold cellOf
  by_cases h : c < 0
  · rw [if_pos h, if_pos (decide_eq_true h)]
    omega
  · rw [if_neg h, if_neg (by simpa using h)]
    omega
def spState (K : Frag) : Sp := fun vs H Q _ => ∃ (a : Addr) (ns : List Int), vs = [.ref a] ∧ SqL K H a (ns.map V.int) ∧ ns.length ≤ 63 ∧
  ∀ (H' : Hp) (S R : Addr) (rs : List Int), StAt 34 H' S R rs 0 → H S = none → H R = none → Same H H' → Q (.ref S) H'
theorem scState : FnScope ["_law_script", "_law_rests", "_law_cell"] ["_law_script"] (defScope sState) :=
  ⟨rfl, rfl, rfl, by decide +kernel, rfl, by decide +kernel, by decide +kernel⟩
theorem dpInts {K : Frag} {H : Hp} : ∀ ms : List Int, DpAll K H (ms.map V.int) (ms.map PyData.int)
  | [] => .nil
  | m :: ms => .cons (.int m) (dpInts ms)
section
variable {P : Program} {w : World} {K : Frag} {mg : Str → Option Value} {base : Heap}
theorem ok_state {f : Addr} {fd : FuncData} (F : Fun K "_law_state" "_law_state" sState f fd) (B : Blt mg) : FnOk P w K mg base CX0 1 f fd ["_law_script"] (spState K) := by
  refine F.ok scState (fun vs H Q E h => ?_) (fun cdv A outer s H vs Q E hr h => ?_)
  · obtain ⟨a, ns, rfl, _⟩ := h
    rfl
  · refine ⟨_, pss_cons (ps_setLc (i := 1) (own := [("_law_cell", 2)]) (g := gName 2) (tt := tYes) rfl scState.nd rfl rfl (sw_true rfl rfl rfl (by decide +kernel)) (pi_list (pv 0)) (blkOk_by (N := ["_law_script", "_law_rests", "_law_cell"]) (sc := defScope sState) (by decide +kernel))
        (fun _ _ _ _ _ => pg_name (i := 2) scState.nd rfl (Or.inl rfl)) (fun _ _ _ _ _ => pts_nil)
        (fun _ _ _ _ _ => pe_op op_add (pe_op op_mul pe_int (pe_callB call_abs (by rfl) B.abs (by decide +kernel) (pa_cons (pv 2) pa_nil)))
          (pe_callTy call_int1 (by rfl) B.int (by decide +kernel) (pa_cons (pe_cmpR op_lt (pv 2) pe_int (nomark _)) pa_nil))))
      (pss_cons (ps_if (pt_cmpR (op_eqD hr.units) (pv 1) (pe_lst pa_nil) (nomark _)) (pss_one (ps_set (i := 1) scState.nd rfl (.inl rfl) (pe_lst (pa_cons pe_int pa_nil)))) pss_nil)
      (pss_one (ps_ret (pe_lst (pa_cons (pv 1) (pa_cons pe_int (pa_cons pe_int (pa_cons pe_int pa_nil)))))))), ?_⟩
    obtain ⟨a, ns, rfl, hS, hl, k⟩ := h
    refine ⟨_, rfl, a, rfl, ⟨_, hS⟩, fun D hD => lc_list (K := K) (xs := ns.map V.int) (fun i H' => H' = upd H D (.lst (((ns.take i).map cellOf).map V.int))) (by simp) (fun i H' _ e => ?_) (fun i x H' hi e => ?_) (fun H' e => ?_)⟩
    · rw [e]
      exact (same_upd hD).seq hS
    · obtain ⟨c, hc, rfl⟩ : ∃ c, ns[i]? = some c ∧ x = V.int c := by
        rw [List.getElem?_map] at hi
        cases z : ns[i]? with
        | none => rw [z] at hi; cases hi
        | some c => rw [z] at hi; exact ⟨c, rfl, (Option.some.inj hi).symm⟩
      have hlen : ns.length ≤ 63 := hl
      subst e
      refine ⟨rfl, ?_⟩
      refine ⟨_, rfl, _, rfl, _, _, rfl, rfl, .inl ⟨by decide, by decide⟩, _, rfl, _, _, rfl, rfl, .inr ⟨_, rfl, _, _, rfl, rfl, ?_⟩⟩
      refine ⟨_, upd_same, ?_, ?_⟩
      · rw [List.length_map, List.length_map]
        have z : (ns.take i).length ≤ 63 := by
          rw [List.length_take]
          omega
        exact Nat.lt_of_le_of_lt z (by decide)
      · rw [upd_upd, take_snoc hc, List.map_append, List.map_append]
        rfl
    · subst e
      rw [List.length_map, List.take_length]
      generalize hms : ns.map cellOf = ms
      have mpos : ∀ r ∈ ms, 0 ≤ r := by
        rw [← hms]
        intro r hr
        obtain ⟨c, _, rfl⟩ := List.mem_map.mp hr
        exact cellOf_pos c
      have mlen : ms.length ≤ 63 := by
        rw [← hms, List.length_map]
        exact hl
      have sD : Same H (upd H D (.lst (ms.map V.int))) := same_upd hD
      refine ⟨_, rfl, (by decide : 0 ≤ sizeLine), fun p np => ?_⟩
      have hDp : D ≠ p := fun e => by
        rw [e, upd_same] at np
        cases np
      have np0 : H p = none := sD.free np
      refine ⟨.list (ms.map PyData.int), .list [], .lst (SqL.of (by rw [upd_ne hDp]; exact upd_same)) (dpInts ms), .lst (SqL.of upd_same) .nil, PySem.W.shaped_ints ms, by decide, _, rfl, ?_⟩
      have sp : Same H (upd (upd H D (.lst (ms.map V.int))) p (.lst [])) := same_upd2 sD np0
      cases ms with
      | nil =>
        refine ⟨(by decide : 1 ≤ sizeLine), fun R nR => ?_⟩
        refine ⟨_, rfl, (by decide : 4 ≤ sizeLine), fun S nS => ?_⟩
        have hRS : R ≠ S := fun e => by
          rw [e, upd_same] at nS
          cases nS
        have nR0 : H R = none := sp.free nR
        have sR := same_upd2 (o := .lst [V.int 0]) sp nR0
        have nS0 : H S = none := sR.free nS
        exact k _ S R [0] ⟨upd_same, by rw [upd_ne hRS]; exact upd_same, by simp, by simp, by simp, by decide, Ne.symm hRS⟩ nS0 nR0 (same_upd2 sR nS0)
      | cons m ms =>
        refine ⟨_, rfl, (by decide : 4 ≤ sizeLine), fun S nS => ?_⟩
        have hDS : D ≠ S := fun e => by
          rw [e.symm, upd_ne hDp, upd_same] at nS
          cases nS
        have nS0 : H S = none := sp.free nS
        exact k _ S D (m :: ms) ⟨upd_same, by rw [upd_ne hDS, upd_ne hDp]; exact upd_same, by simp, by omega, mpos, by decide, Ne.symm hDS⟩ nS0 hD (same_upd2 sp nS0)
end
def U (S R : Addr) (H : Hp) : Hp := hide (hide H S) R
theorem U_back {S R : Addr} {H : Hp} : Same (U S R H) H := hide_same.trans hide_same
theorem U_same {S R : Addr} {H H' : Hp} (s : Same H H') : Same (U S R H) (U S R H') := hide_mono (hide_mono s)
theorem U_get {S R b : Addr} {H : Hp} {o : HO} (h : U S R H b = some o) : b ≠ S ∧ b ≠ R ∧ H b = some o := by
  refine ⟨fun z => ?_, fun z => ?_, U_back _ _ h⟩
  · have h1 := hide_same _ _ h
    unfold hide at h1
    rw [if_pos z] at h1
    cases h1
  · unfold U hide at h
    rw [if_pos z] at h
    cases h
theorem U_set {S R b : Addr} {H : Hp} {o : HO} (h : H b = some o) (n1 : b ≠ S) (n2 : b ≠ R) : U S R H b = some o := hide_ne (hide_ne h n1) n2
theorem U_off {S R : Addr} {H H' : Hp} (off : ∀ b, b ≠ S → b ≠ R → H' b = H b) : Same (U S R H) (U S R H') := fun b o h => by
  obtain ⟨n1, n2, h⟩ := U_get h
  exact U_set (by rw [off b n1 n2]; exact h) n1 n2
theorem U_none {S R b : Addr} {H : Hp} (h : H b = none) : U S R H b = none := by
  cases z : U S R H b with
  | none => rfl
  | some o => rw [(U_get z).2.2] at h; cases h
theorem U_upd2 {S R D : Addr} {H H1 : Hp} {o : HO} (s : Same (U S R H) (U S R H1)) (h : H D = none) : Same (U S R H) (U S R (L2.upd H1 D o)) := fun b u e => by
  have ne : b ≠ D := fun z => by rw [z, U_none h] at e; cases e
  obtain ⟨n1, n2, h1⟩ := U_get (s _ _ e)
  exact U_set (by rw [upd_ne ne]; exact h1) n1 n2
def St (bu : Int) (H : Hp) (S R : Addr) (n : Nat) : Prop := ∃ rs m, StAt bu H S R rs m ∧ m ≤ n
theorem St.same {bu : Int} {H H' : Hp} {S R : Addr} {n : Nat} (h : St bu H S R n) (s : Same H H') : St bu H' S R n := by
  obtain ⟨rs, m, T, l⟩ := h
  exact ⟨rs, m, ⟨s _ _ T.at_, s _ _ T.rest, T.full, T.few, T.pos, T.soon, T.ne⟩, l⟩
theorem St.le {bu : Int} {H : Hp} {S R : Addr} {n k : Nat} (h : St bu H S R n) (l : n ≤ k) : St bu H S R k := by
  obtain ⟨rs, m, T, l'⟩ := h
  exact ⟨rs, m, T, Nat.le_trans l' l⟩
theorem St.ne {bu : Int} {H : Hp} {S R D : Addr} {n : Nat} (h : St bu H S R n) (hD : H D = none) : D ≠ S ∧ D ≠ R := by
  obtain ⟨rs, m, T, l⟩ := h
  exact ⟨(fun z => by rw [z, T.at_] at hD; cases hD), (fun z => by rw [z, T.rest] at hD; cases hD)⟩
theorem St.upd {bu : Int} {H : Hp} {S R D : Addr} {n : Nat} {o : HO} (h : St bu H S R n) (hD : D ≠ S ∧ D ≠ R) : St bu (L2.upd H D o) S R n := by
  obtain ⟨rs, m, T, l⟩ := h
  exact ⟨rs, m, ⟨by rw [upd_ne (Ne.symm hD.1)]; exact T.at_, by rw [upd_ne (Ne.symm hD.2)]; exact T.rest, T.full, T.few, T.pos, T.soon, T.ne⟩, l⟩
theorem drew {bu : Int} {H H' : Hp} {S R : Addr} {n j : Nat} {r : Int} {rs : List Int} (h0 : 0 ≤ r) (T : StAt bu H' S R rs (j + 1)) (l : j ≤ n) (off : ∀ b, b ≠ S → b ≠ R → H' b = H b) : ∃ q : Nat, r = q ∧ St bu H' S R (n + 1) ∧ Same (U S R H) (U S R H') :=
  ⟨r.toNat, by omega, ⟨rs, j + 1, T, by omega⟩, U_off off⟩
theorem le30 {m : Int} (h : m ≤ 1000) : m ≤ 10 ^ 30 := Int.le_trans h (by decide)
abbrev nSig : List Str := ["_law_state_here", "_law_some", "_law_least", "_law_most", "_law_many", "_law_k"]
abbrev nNm : List Str := ["_law_state_here", "_law_some", "_law_words", "_law_pick_here"]
theorem scSig : FnScope nSig ["_law_state_here", "_law_some", "_law_least", "_law_most"] (defScope sSig) := ⟨rfl, rfl, rfl, by decide +kernel, rfl, by decide +kernel, by decide +kernel⟩
theorem scNm : FnScope nNm ["_law_state_here"] (defScope sNm) := ⟨rfl, rfl, rfl, by decide +kernel, rfl, by decide +kernel, by decide +kernel⟩
def rLen1 (K : Frag) : List V → Hp → VK → Prop := fun xs H Q => ∃ x n, xs = [x] ∧ LenV K x H n ∧ Q (.int n) H
def spSig : Sp := fun vs H Q _ => ∃ (S R : Addr) (n : Nat) (sm : Str) (lo hi : Nat) (bu : Int), vs = [.ref S, .str sm, .int lo, .int hi] ∧ lo ≤ hi ∧ hi ≤ 20 ∧ 0 < sm.length ∧ sm.length ≤ 500 ∧ n ≤ 90000 ∧ St bu H S R n ∧
  ∀ H' x, St bu H' S R (n + 1 + hi) → Same (U S R H) (U S R H') → (∀ c ∈ cs x, c ∈ cs sm) → lo ≤ x.length → x.length ≤ hi → Q (.str x) H'
section
variable {P : Program} {w : World} {K : Frag} {mg : Str → Option Value} {base : Heap}
theorem cs_one (c : Nat) : cs (⟨#[c]⟩ : Str) = [c] := rfl
theorem joinL_one : ∀ ts : List Str, (∀ t ∈ ts, ∃ c, t = (⟨#[c]⟩ : Str)) → (TL.joinL [] (ts.map TL.tl)).length = ts.length ∧ ∀ c ∈ TL.joinL [] (ts.map TL.tl), (⟨#[c]⟩ : Str) ∈ ts
  | [], _ => ⟨rfl, fun c m => by cases m⟩
  | [t], h => by
    obtain ⟨c, rfl⟩ := h t (.head _)
    refine ⟨rfl, fun d m => ?_⟩
    have m : d ∈ [c] := m
    rcases List.mem_singleton.mp m with rfl
    exact .head _
  | t :: u :: r, h => by
    obtain ⟨c, rfl⟩ := h t (.head _)
    have ih := joinL_one (u :: r) fun x m => h x (.tail _ m)
    refine ⟨?_, fun d m => ?_⟩
    · show ([c] ++ ([] ++ TL.joinL [] ((u :: r).map TL.tl))).length = _
      rw [List.length_append, List.nil_append, ih.1]
      show 1 + _ = _ + 1
      omega
    · have m : d ∈ [c] ++ ([] ++ TL.joinL [] ((u :: r).map TL.tl)) := m
      rcases List.mem_append.mp m with m | m
      · rcases List.mem_singleton.mp m with rfl
        exact .head _
      · exact .tail _ (ih.2 d m)
theorem join_one (ts : List Str) (h : ∀ t ∈ ts, ∃ c, t = (⟨#[c]⟩ : Str)) : (cs (Txt.join "" ts)).length = ts.length ∧ ∀ c ∈ cs (Txt.join "" ts), (⟨#[c]⟩ : Str) ∈ ts := by
  rw [TL.join_eq]
  have e : cs (Str.join "" ts) = TL.joinL [] (ts.map TL.tl) := TL.tl_join "" ts
  rw [e]
  exact joinL_one ts h
theorem ok_sig {f fD : Addr} {fd fdD : FuncData} (F : Fun K "_law_signs" "_law_signs" sSig f fd) (B : Blt mg) (FD : Fun K "_law_draw" "_law_draw" sDraw fD fdD) (gD : mg "_law_draw" = some (.ref fD)) (bD : Binds K fdD ["_law_state_here", "_law_many"] []) :
    FnOk P w K mg base CX0 2 f fd ["_law_state_here", "_law_some", "_law_least", "_law_most"] spSig := by
  have GD : FnOk P w K mg base CX0 1 fD fdD ["_law_state_here", "_law_many"] spDraw := ok_draw FD B
  refine F.ok scSig (fun vs H Q E h => ?_) (fun cdv A outer s H vs Q E hr h => ?_)
  · obtain ⟨S, R, n, sm, lo, hi, bu, rfl, _⟩ := h
    rfl
  · refine ⟨_, pss_cons (ps_set (i := 4) scSig.nd rfl (.inl rfl) (pe_op op_add (pv 2) (pe_call GD hr rfl gD FD.kp bD .nil pass0 (pa_cons (pv 0) (pa_cons (pe_op op_add (pe_op op_sub (pv 3) (pv 2)) pe_int) pa_nil)))))
      (pss_one (ps_ret (pe_join pe_str (pe_lc (te := tOp rIxS (tVar 1) (tCall spDraw [] E0 (tCons (tVar 0) (tCons (tCB (rLen1 K) (tCons (tVar 1) tNil)) tNil)))) (own := [("_law_k", 5)]) (g := gName 5) (tt := tYes) rfl scSig.nd (pi_range1 (by rfl) B.range (pa_cons (pv 4) pa_nil)) (blkOk_by (N := nSig) (sc := defScope sSig) (by decide +kernel))
        (fun _ _ _ _ _ => pg_name (i := 5) scSig.nd rfl (Or.inl rfl)) (fun _ _ _ _ _ => pts_nil)
        (fun _ _ _ _ _ => pe_ix ix_str (pv 1) (pe_call GD hr rfl gD FD.kp bD .nil pass0 (pa_cons (pv 0) (pa_cons (pe_callB call_len (by rfl) B.len PySem.boot_len (pa_cons (pv 1) pa_nil)) pa_nil))) (fun _ _ => rfl)))))), ?_⟩
    obtain ⟨S, R, n, sm, lo, hi, bu, rfl, hlh, hh, h0, hs, hn, T, k⟩ := h
    have hz : sm.length ≤ sizeLine := by
      rw [sizeLine_eq]
      omega
    obtain ⟨rs0, j0, T0, l0⟩ := T
    refine ⟨_, rfl, _, rfl, _, rfl, _, rfl, _, _, rfl, rfl, _, _, rfl, rfl, S, R, rs0, j0, _, _, rfl, by omega, le30 (by omega), by omega, T0, fun H1 r0 rs1 z0 hr1 z2 z3 => ?_⟩
    obtain ⟨r, rfl, T1, s1⟩ := drew z0 z2 l0 z3
    refine ⟨_, _, rfl, rfl, ?_⟩
    have em : ((lo : Int) + (r : Int)).toNat = lo + r := by omega
    refine ⟨⟨_, rfl⟩, _, rfl, _, rfl, by omega, by omega, fun D hD => ?_⟩
    have hDU : U S R H D = none := s1.free (U_none hD)
    refine lc_it (walk_range (lo := 0) (n := ((lo : Int) + (r : Int)).toNat))
      (fun i H' => St bu H' S R (n + 1 + i) ∧ Same (U S R H) (U S R H') ∧ ∃ ts : List Str, H' D = some (.lst (ts.map V.str)) ∧ ts.length = i ∧ ∀ t ∈ ts, ∃ c, t = (⟨#[c]⟩ : Str) ∧ c ∈ cs sm) ⟨T1.upd (T1.ne hD), ?_, [], upd_same, rfl, fun t m => by cases m⟩ (fun _ _ _ _ => trivial) (fun i x H' H2 hi e y => ?_) (fun H' e => ?_)
    · exact fun b u e => by
        have y := s1 b u e
        obtain ⟨n1, n2, h1⟩ := U_get y
        exact U_set (by rw [upd_ne (ne_of_none h1 hD)]; exact h1) n1 n2
    · obtain ⟨⟨rs2, j2, T2, l2⟩, s2, ts, hDt, hlt, hts⟩ := e
      obtain ⟨rfl, rfl⟩ := y
      refine ⟨rfl, _, rfl, _, rfl, _, rfl, .str sm, sm.length, rfl, ⟨hz, rfl⟩, S, R, rs2, j2, _, _, rfl, by omega, le30 (by omega), by omega, T2, fun H3 r0 rs3 z0 hq z2 z3 => ?_⟩
      obtain ⟨q, rfl, T3, s3⟩ := drew z0 z2 l2 z3
      obtain ⟨c, hc⟩ : ∃ c, (cs sm)[q]? = some c := ⟨_, List.getElem?_eq_getElem (by have := len_cs sm; omega)⟩
      obtain ⟨dS, dR⟩ := T1.ne hD
      have hD3 : H3 D = some (.lst (ts.map V.str)) := by
        rw [z3 D dS dR]
        exact hDt
      refine ⟨sm, _, c, rfl, rfl, hz, atI_nat hc, _, hD3, ?_, (T3.upd ⟨dS, dR⟩).le (by omega), ?_, ts ++ [⟨#[c]⟩], ?_, ?_, ?_⟩
      · rw [List.length_map, sizeLine_eq]
        omega
      · have sU := s2.trans s3
        exact fun b u e => by
          have y := sU b u e
          obtain ⟨n1, n2, h1⟩ := U_get y
          have ne : b ≠ D := fun z => by
            rw [z] at e
            exact absurd e (by rw [hDU]; simp)
          exact U_set (by rw [upd_ne ne]; exact h1) n1 n2
      · rw [upd_same, List.map_append]
        rfl
      · rw [List.length_append, List.length_singleton, hlt]
      · intro t m
        rcases List.mem_append.mp m with m | m
        · exact hts t m
        · rcases List.mem_singleton.mp m with rfl
          exact ⟨c, rfl, List.mem_of_getElem? hc⟩
    · obtain ⟨T2, s2, ts, hDt, hlt, hts⟩ := e
      have z := join_one ts fun t m => by
        obtain ⟨c, e, _⟩ := hts t m
        exact ⟨c, e⟩
      have sing : ∀ l : List Str, (∀ t ∈ l, ∃ c, t = (⟨#[c]⟩ : Str)) → (l.map fun t => t.length).sum = l.length := by
        intro l
        induction l with
        | nil => intro _; rfl
        | cons t l ih =>
          intro h
          obtain ⟨c, rfl⟩ := h t (.head _)
          rw [List.map_cons, List.sum_cons, ih fun x m => h x (.tail _ m), List.length_cons]
          show 1 + l.length = l.length + 1
          omega
      have sm1 := sing ts fun t m => by
        obtain ⟨c, e, _⟩ := hts t m
        exact ⟨c, e⟩
      have lj : (Txt.join "" ts).length = ts.length := by rw [len_cs]; exact z.1
      refine ⟨"", D, ts, rfl, rfl, .inl (SqL.of hDt), ?_, k H' _ (T2.le (by omega)) s2 (fun c m => ?_) (by omega) (by omega)⟩
      · rw [sm1, hlt]
        show _ + _ * 0 ≤ _
        omega
      · obtain ⟨c', e, mc⟩ := hts _ (z.2 c m)
        have e1 : cs (⟨#[c]⟩ : Str) = cs (⟨#[c']⟩ : Str) := congrArg cs e
        have e2 : c = c' := by
          rw [cs_one, cs_one] at e1
          exact List.head_eq_of_cons_eq e1
        rw [e2]
        exact mc
end
theorem name_of {c : Nat} {r : L} (h1 : c ∈ staC) (h2 : ∀ d ∈ r, d ∈ namC) : isNameB (c :: r) = true := by
  rw [name_nm]
  show (decide (c ∈ staC) && r.all fun d => decide (d ∈ namC)) = true
  rw [decide_eq_true h1, Bool.true_and, List.all_eq_true]
  exact fun d m => decide_eq_true (h2 d m)
theorem pick_of (ws : List Str) {r : Nat} (h : r < ws.length) : ∃ w ∈ ws, (ws.map V.str)[r]? = some (.str w) := by
  refine ⟨ws[r], List.getElem_mem h, ?_⟩
  rw [List.getElem?_map, List.getElem?_eq_getElem h]
  rfl
def spNm : Sp := fun vs H Q _ => ∃ (S R : Addr) (n : Nat) (bu : Int), vs = [.ref S] ∧ n ≤ 80000 ∧ St bu H S R n ∧ ∀ H' x, St bu H' S R (n + 7) → Same (U S R H) (U S R H') → isNameB (cs x) = true → x.length ≤ 5 → Q (.str x) H'
abbrev wNm : List Str := ["if", "in", "do", "x", "SEP"]
theorem U_new {S R D : Addr} {H : Hp} {o : HO} (h : H D = none) : Same (U S R H) (U S R (L2.upd H D o)) := U_upd2 (Same.refl _) h
section
variable {P : Program} {w : World} {K : Frag} {mg : Str → Option Value} {base : Heap}
theorem ok_nm {f fD fS : Addr} {fd fdD fdS : FuncData} (F : Fun K "_law_name" "_law_name" sNm f fd) (B : Blt mg)
    (FD : Fun K "_law_draw" "_law_draw" sDraw fD fdD) (gD : mg "_law_draw" = some (.ref fD)) (bD : Binds K fdD ["_law_state_here", "_law_many"] [])
    (FS : Fun K "_law_signs" "_law_signs" sSig fS fdS) (gS : mg "_law_signs" = some (.ref fS)) (bS : Binds K fdS ["_law_state_here", "_law_some", "_law_least", "_law_most"] []) :
    FnOk P w K mg base CX0 3 f fd ["_law_state_here"] spNm := by
  have GD : FnOk P w K mg base CX0 1 fD fdD ["_law_state_here", "_law_many"] spDraw := ok_draw FD B
  have GS : FnOk P w K mg base CX0 2 fS fdS ["_law_state_here", "_law_some", "_law_least", "_law_most"] spSig := ok_sig FS B FD gD bD
  refine F.ok scNm (fun vs H Q E h => ?_) (fun cdv A outer s H vs Q E hr h => ?_)
  · obtain ⟨S, R, n, bu, rfl, _⟩ := h
    rfl
  · refine ⟨_, pss_cons (ps_set (i := 1) scNm.nd rfl (.inl rfl) pe_str)
      (pss_cons (ps_set (i := 2) scNm.nd rfl (.inl rfl) (pe_lst (pa_cons pe_str (pa_cons pe_str (pa_cons pe_str (pa_cons pe_str (pa_cons pe_str pa_nil)))))))
      (pss_cons (ps_set (i := 3) scNm.nd rfl (.inl rfl) (pe_call GD (hr.mono (by decide)) rfl gD FD.kp bD .nil pass0 (pa_cons (pv 0) (pa_cons pe_int pa_nil))))
      (pss_cons (ps_if (pt_cmpR op_lt (pv 3) pe_int (nomark _)) (pss_one (ps_ret (pe_ix ix_list (pv 2) (pv 3) (fun _ _ => rfl)))) pss_nil)
      (pss_one (ps_ret (pe_op op_add_str (pe_ix ix_str (pv 1) (pe_call GD (hr.mono (by decide)) rfl gD FD.kp bD .nil pass0 (pa_cons (pv 0) (pa_cons pe_int pa_nil))) (fun _ _ => rfl))
        (pe_call GS hr rfl gS FS.kp bS .nil pass0 (pa_cons (pv 0) (pa_cons (pe_op op_add_str (pv 1) pe_str) (pa_cons pe_int (pa_cons pe_int pa_nil))))))))))), ?_⟩
    obtain ⟨S, R, n, bu, rfl, hn, T, k⟩ := h
    refine ⟨(by decide : 5 ≤ sizeLine), fun L nL => ?_⟩
    have hU := U_new (S := S) (R := R) (o := .lst (wNm.map V.str)) nL
    obtain ⟨rs0, j0, T0, l0⟩ := T.upd (o := .lst (wNm.map V.str)) (T.ne nL)
    refine ⟨_, rfl, S, R, rs0, j0, _, _, rfl, by decide, by decide, by omega, T0, fun H1 r0 rs1 z0 hr1 z2 z3 => ?_⟩
    obtain ⟨r, rfl, T1, s1⟩ := drew z0 z2 l0 z3
    have hL : H1 L = some (.lst (wNm.map V.str)) := by
      rw [z3 L (T.ne nL).1 (T.ne nL).2]
      exact upd_same
    refine ⟨_, rfl, _, _, rfl, rfl, _, rfl, if_by (fun e => ?_) (fun e => ?_)⟩
    · have hlt : r < 5 := by
        have := of_decide_eq_true e
        omega
      obtain ⟨x, mx, hx⟩ := pick_of wNm (r := r) hlt
      have ok : ∀ x ∈ wNm, isNameB (cs x) = true ∧ x.length ≤ 5 := by decide +kernel
      exact ⟨_, rfl, _, rfl, L, _, _, _, rfl, rfl, SqL.of hL, atI_nat hx, k H1 x (T1.le (by omega)) (hU.trans s1) (ok x mx).1 (ok x mx).2⟩
    · obtain ⟨rs2, j2, T2, l2⟩ := T1
      refine ⟨_, rfl, _, rfl, S, R, rs2, j2, _, _, rfl, by decide, by decide, by omega, T2, fun H3 r3 rs3 z4 hr3 z6 z7 => ?_⟩
      obtain ⟨q, rfl, T3, s3⟩ := drew z4 z6 l2 z7
      have hq : q < (cs startS).length := Nat.lt_of_lt_of_le (by omega : q < 53) (by decide +kernel)
      obtain ⟨c, hc⟩ : ∃ c, (cs startS)[q]? = some c := ⟨_, List.getElem?_eq_getElem hq⟩
      have lS : startS.length ≤ sizeLine := by decide +kernel
      refine ⟨startS, _, c, rfl, rfl, lS, atI_nat hc, _, rfl, _, rfl, _, _, rfl, rfl, by decide +kernel, ?_⟩
      refine ⟨S, R, n + 2, startS ++ ("0123456789" : Str), 0, 4, _, rfl, by decide, by decide, by decide +kernel, by decide +kernel, by omega, T3, fun H4 y T4 s4 hy _ ly => ?_⟩
      have e1 : cs (startS ++ ("0123456789" : Str)) = cs nameS := by decide +kernel
      have ex : cs ((⟨#[c]⟩ : Str) ++ y) = c :: cs y := by
        rw [cs_app]
        rfl
      have lx : ((⟨#[c]⟩ : Str) ++ y).length = 1 + y.length := by
        rw [len_cs, ex, List.length_cons, len_cs y]
        omega
      refine ⟨_, _, rfl, rfl, ?_, k H4 _ (T4.le (by omega)) ((hU.trans s1).trans (s3.trans s4)) ?_ (by omega)⟩
      · show 1 + y.length ≤ sizeLine
        rw [sizeLine_eq]
        omega
      · rw [ex]
        exact name_of (List.mem_of_getElem? hc) fun d m => by have z := hy d m; rw [e1] at z; exact z
end
end Qb
end PySem
namespace PySem
namespace Qb
open PySem.W PySem.Calls PyProof.Rows L2
/-! # a drawn sum -/
def Sm.size : Sm → Nat
  | .num _ => 1
  | .of _ => 1
  | .one _ a => 1 + a.size
  | .two _ a b => 1 + a.size + b.size
  | .three _ a b c => 1 + a.size + b.size + c.size
abbrev wPl : List Str := ["0", "1", "12", "#", "?"]
def Sm.drn : Sm → Prop
  | .num n => 0 ≤ n ∧ n ≤ 10 ^ 18
  | .of w => (isNameB (cs w) = true ∧ w.length ≤ 5) ∨ w ∈ wPl
  | .one s a => (s = "minus" ∨ s = "no") ∧ a.drn
  | .two s a b => isOp s = true ∧ a.drn ∧ b.drn
  | .three s a b c => s = "choose" ∧ a.drn ∧ b.drn ∧ c.drn
theorem isz_size : ∀ (t : Sm), t.isz ≤ t.size
  | .num _ => Nat.zero_le _
  | .of _ => Nat.zero_le _
  | .one _ a => by
    have := isz_size a
    show 1 + a.isz ≤ 1 + a.size
    omega
  | .two _ a b => by
    have := isz_size a
    have := isz_size b
    show 1 + a.isz + b.isz ≤ 1 + a.size + b.size
    omega
  | .three _ a b c => by
    have := isz_size a
    have := isz_size b
    have := isz_size c
    show 1 + a.isz + b.isz + c.isz ≤ 1 + a.size + b.size + c.size
    omega
def spLs (K : Frag) : Nat → Sp
  | 0 => fun _ _ _ _ => False
  | n + 1 => fun vs H Q _ => ∃ (S R : Addr) (m : Nat) (bu : Int), vs = [.ref S, .int (n : Nat)] ∧ m + 9 * 4 ^ (n + 1) ≤ 70000 ∧ St bu H S R m ∧
    ∀ (H' : Hp) (v : V) (t : Sm), St (bu - t.size) H' S R (m + 9 * t.size) → Same (U S R H) (U S R H') → Dp K (U S R H') v t.d → t.drn → t.ht ≤ n → t.size ≤ 4 ^ (n + 1) → ((t.isz : Int) ≤ bu - 1 ∨ t.isz = 0) → (t.size = 1 ∨ ((t.size : Int) ≤ bu + 2 * (n : Nat) ∧ 2 ≤ bu)) → Q v H'
section
variable {P : Program} {w : World} {K : Frag} {mg : Str → Option Value} {base : Heap}
theorem drw {S R : Addr} {H : Hp} {m : Nat} {bu k : Int} {Q : VK} {E : XK} (T : St bu H S R m) (hm : m < 90000) (k0 : 0 < k) (k1 : k ≤ 10 ^ 30)
    (q : ∀ (H' : Hp) (r : Nat), (r : Int) < k → St bu H' S R (m + 1) → Same (U S R H) (U S R H') → (∀ b, b ≠ S → b ≠ R → H' b = H b) → Q (.int (r : Nat)) H') : spDraw ([.ref S, .int k] ++ []) H Q E := by
  obtain ⟨rs, j, T0, l0⟩ := T
  refine ⟨S, R, rs, j, k, bu, rfl, k0, k1, by omega, T0, fun H1 r0 rs1 z0 hr1 z2 z3 => ?_⟩
  obtain ⟨r, rfl, T1, s1⟩ := drew z0 z2 l0 z3
  exact q H1 r hr1 T1 s1 z3
theorem U_new2 {S R D : Addr} {H H1 : Hp} {o : HO} (s : Same (U S R H) (U S R H1)) (h : H1 D = none) : Same (U S R H) (U S R (L2.upd H1 D o)) := s.trans (U_new h)
theorem St.eq {b b' : Int} {H : Hp} {S R : Addr} {n : Nat} (h : St b H S R n) (e : b = b') : St b' H S R n := e ▸ h
theorem nmw {S R : Addr} {H : Hp} {m : Nat} {bu : Int} {Q : VK} {E : XK} (T : St bu H S R m) (hm : m ≤ 80000)
    (q : ∀ (H' : Hp) (x : Str), St bu H' S R (m + 7) → Same (U S R H) (U S R H') → isNameB (cs x) = true → x.length ≤ 5 → Q (.str x) H') : spNm ([.ref S] ++ []) H Q E := ⟨S, R, m, bu, rfl, hm, T, q⟩
/-- a tuple is made while the state at S and R changes -/
theorem mk_tupU {K : Frag} {S R T : Addr} {H : Hp} {vs : List V} {ds : List PyData} (n : H T = none) (ne : T ≠ S ∧ T ≠ R) (h : DpAll K (U S R H) vs ds) : Dp K (U S R (L2.upd H T (.tup vs))) (.ref T) (.tuple ds) :=
  .tup (SqT.of (U_set upd_same ne.1 ne.2)) (dpAll_same (U_new n) h)
abbrev sLs : Stmt := top 49
abbrev nLs : List Str := ["_law_state_here", "_law_deep", "_law_pick_here", "_law_sign"]
theorem scLs : FnScope nLs ["_law_state_here", "_law_deep"] (defScope sLs) := ⟨rfl, rfl, rfl, by decide +kernel, rfl, by decide +kernel, by decide +kernel⟩
theorem ok_Ls {spD spN : Sp} (drw : ∀ {S R : Addr} {H : Hp} {m : Nat} {bu k : Int} {Q : VK} {E : XK}, St bu H S R m → m < 90000 → 0 < k → k ≤ 10 ^ 30 → (∀ (H' : Hp) (r : Nat), (r : Int) < k → St bu H' S R (m + 1) → Same (U S R H) (U S R H') → (∀ b, b ≠ S → b ≠ R → H' b = H b) → Q (.int (r : Nat)) H') → spD ([.ref S, .int k] ++ []) H Q E)
    (nmw : ∀ {S R : Addr} {H : Hp} {m : Nat} {bu : Int} {Q : VK} {E : XK}, St bu H S R m → m ≤ 80000 → (∀ (H' : Hp) (x : Str), St bu H' S R (m + 7) → Same (U S R H) (U S R H') → isNameB (cs x) = true → x.length ≤ 5 → Q (.str x) H') → spN ([.ref S] ++ []) H Q E) {f : Addr} {fd : FuncData} (F : Fun K "_law_sum" "_law_sum" sLs f fd) (gLs : mg "_law_sum" = some (.ref f)) (bLs : Binds K fd ["_law_state_here", "_law_deep"] []) {fDr fNm : Addr} {dDr dNm : FuncData} (gDr : mg "_law_draw" = some (.ref fDr)) (kDr : PySem.W.keepIn K (.ref fDr) = true) (bDr : Binds K dDr ["_law_state_here", "_law_many"] []) (GDr : FnOk P w K mg base CX0 1 fDr dDr ["_law_state_here", "_law_many"] spD)
    (gNm : mg "_law_name" = some (.ref fNm)) (kNm : PySem.W.keepIn K (.ref fNm) = true) (bNm : Binds K dNm ["_law_state_here"] []) (GNm : FnOk P w K mg base CX0 3 fNm dNm ["_law_state_here"] spN) : ∀ n, FnOk P w K mg base CX0 (n + 5) f fd ["_law_state_here", "_law_deep"] (spLs K n)
  | 0 => F.ok scLs (fun vs H Q E h => h.elim) (fun cdv A outer s H vs Q E hr h => h.elim)
  | n + 1 => by
    have GLs := ok_Ls drw nmw F gLs bLs gDr kDr bDr GDr gNm kNm bNm GNm n
    have kLs := F.kp
    refine F.ok scLs (fun vs H Q E h => ?_) (fun cdv A outer s H vs Q E hr h => ?_)
    · obtain ⟨S, R, m, bu, rfl, _⟩ := h
      rfl
    · refine ⟨_, (pss_cons (ps_asg (pe_op op_sub (pe_ix ix_list (pv 0) pe_int (fun _ _ => rfl)) pe_int) (pg_sub (pv 0) pe_int set_list))
        (pss_cons (ps_set (i := 2) scLs.nd rfl (.inl rfl) (pe_call GDr (hr.mono (by omega)) rfl gDr kDr bDr .nil pass0 (pa_cons (pv 0) (pa_cons pe_int pa_nil))))
        (pss_cons (ps_if (PW.pt (pw_or (pt_cmpR op_eq (pv 1) pe_int (nomark _)) (pw_or (pt_cmpR op_le (pe_ix ix_list (pv 0) pe_int (fun _ _ => rfl)) pe_int (nomark _)) (pw_or1 (pt_cmpR op_lt (pv 2) pe_int (nomark _)))))) (pss_one (ps_ret (pe_tup (pa_cons pe_str (pa_cons (pe_call GDr (hr.mono (by omega)) rfl gDr kDr bDr .nil pass0 (pa_cons (pv 0) (pa_cons (pe_ix ix_list (pe_lst (pa_cons pe_int (pa_cons pe_int (pa_cons (pe_op op_add (pe_op op_pow pe_int pe_int) pe_int) pa_nil)))) (pe_call GDr (hr.mono (by omega)) rfl gDr kDr bDr .nil pass0 (pa_cons (pv 0) (pa_cons pe_int pa_nil))) (fun _ _ => rfl)) pa_nil))) pa_nil))))) pss_nil)
        (pss_cons (ps_if (pt_cmpR op_lt (pv 2) pe_int (nomark _)) (pss_cons (ps_if (pt_cmpR op_eq (pe_call GDr (hr.mono (by omega)) rfl gDr kDr bDr .nil pass0 (pa_cons (pv 0) (pa_cons pe_int pa_nil))) pe_int (nomark _)) (pss_one (ps_ret (pe_tup (pa_cons pe_str (pa_cons (pe_ix ix_list (pe_lst (pa_cons pe_str (pa_cons pe_str (pa_cons pe_str (pa_cons pe_str (pa_cons pe_str pa_nil)))))) (pe_call GDr (hr.mono (by omega)) rfl gDr kDr bDr .nil pass0 (pa_cons (pv 0) (pa_cons pe_int pa_nil))) (fun _ _ => rfl)) pa_nil))))) pss_nil)
          (pss_one (ps_ret (pe_tup (pa_cons pe_str (pa_cons (pe_call GNm (hr.mono (by omega)) rfl gNm kNm bNm .nil pass0 (pa_cons (pv 0) pa_nil)) pa_nil)))))) pss_nil)
        (pss_cons (ps_if (pt_cmpR op_lt (pv 2) pe_int (nomark _)) (pss_one (ps_ret (pe_tup (pa_cons (pe_ix ix_list (pe_lst (pa_cons pe_str (pa_cons pe_str pa_nil))) (pe_op op_sub (pv 2) pe_int) (fun _ _ => rfl)) (pa_cons (pe_call GLs (hr.mono (by omega)) rfl gLs kLs bLs .nil pass0 (pa_cons (pv 0) (pa_cons (pe_op op_sub (pv 1) pe_int) pa_nil))) pa_nil))))) pss_nil)
        (pss_cons (ps_if (pt_cmpR op_eq (pv 2) pe_int (nomark _)) (pss_one (ps_ret (pe_tup (pa_cons pe_str (pa_cons (pe_call GLs (hr.mono (by omega)) rfl gLs kLs bLs .nil pass0 (pa_cons (pv 0) (pa_cons (pe_op op_sub (pv 1) pe_int) pa_nil))) (pa_cons (pe_call GLs (hr.mono (by omega)) rfl gLs kLs bLs .nil pass0 (pa_cons (pv 0) (pa_cons (pe_op op_sub (pv 1) pe_int) pa_nil))) (pa_cons (pe_call GLs (hr.mono (by omega)) rfl gLs kLs bLs .nil pass0 (pa_cons (pv 0) (pa_cons (pe_op op_sub (pv 1) pe_int) pa_nil))) pa_nil))))))) pss_nil)
        (pss_cons (ps_set (i := 3) scLs.nd rfl (.inl rfl) (pe_ix ix_list (pe_lst (pa_cons pe_str (pa_cons pe_str (pa_cons pe_str (pa_cons pe_str (pa_cons pe_str (pa_cons pe_str (pa_cons pe_str (pa_cons pe_str (pa_cons pe_str (pa_cons pe_str (pa_cons pe_str (pa_cons pe_str (pa_cons pe_str pa_nil)))))))))))))) (pe_call GDr (hr.mono (by omega)) rfl gDr kDr bDr .nil pass0 (pa_cons (pv 0) (pa_cons pe_int pa_nil))) (fun _ _ => rfl)))
        (pss_one (ps_ret (pe_tup (pa_cons (pv 3) (pa_cons (pe_call GLs (hr.mono (by omega)) rfl gLs kLs bLs .nil pass0 (pa_cons (pv 0) (pa_cons (pe_op op_sub (pv 1) pe_int) pa_nil))) (pa_cons (pe_call GLs (hr.mono (by omega)) rfl gLs kLs bLs .nil pass0 (pa_cons (pv 0) (pa_cons (pe_op op_sub (pv 1) pe_int) pa_nil))) pa_nil))))))))))))), ?_⟩
      obtain ⟨S, R, m, bu, rfl, hm, T, k⟩ := h
      have p4 : 4 ^ (n + 1) = 4 * 4 ^ n := by rw [Nat.pow_succ, Nat.mul_comm]
      have p40 : 1 ≤ 4 ^ n := Nat.one_le_pow _ _ (by decide)
      obtain ⟨rs, j, T0, l0⟩ := T
      obtain ⟨hS, hR, hf, hl, hp, hj, hne⟩ := T0
      refine ⟨_, rfl, S, _, _, _, rfl, rfl, sqH hS, rfl, _, _, rfl, rfl, _, rfl, S, _, _, _, rfl, rfl, hS, rfl, ?_⟩
      have T1 : St (bu - 1) (L2.upd H S (.lst [.ref R, .int j, .int 14, .int (bu - 1)])) S R m := ⟨rs, j, ⟨upd_same, by rw [upd_ne (Ne.symm hne)]; exact hR, hf, hl, hp, hj, hne⟩, l0⟩
      have s1 : Same (U S R H) (U S R (L2.upd H S (.lst [.ref R, .int j, .int 14, .int (bu - 1)]))) := U_off fun b n1 _ => upd_ne n1
      have kid : ∀ {i : Int} {Ha : Hp} {m1 : Nat} {b1 : Int} {Q' : VK} {E' : XK}, i = ((n : Nat) : Int) - 1 → 1 ≤ n → m1 + 9 * 4 ^ n ≤ 70000 → St b1 Ha S R m1 →
          (∀ (H' : Hp) (v : V) (t : Sm), St (b1 - t.size) H' S R (m1 + 9 * t.size) → Same (U S R Ha) (U S R H') → Dp K (U S R H') v t.d → t.drn → t.ht + 1 ≤ n → t.size ≤ 4 ^ n → ((t.isz : Int) ≤ b1 - 1 ∨ t.isz = 0) → (t.size = 1 ∨ ((t.size : Int) ≤ b1 + 2 * (n : Nat) - 2 ∧ 2 ≤ b1)) → Q' v H') → spLs K n ([.ref S, .int i] ++ []) Ha Q' E' := by
        intro i Ha m1 b1 Q' E' ei h1 hm1 Tk q
        obtain ⟨n', rfl⟩ : ∃ n', n = n' + 1 := ⟨n - 1, by omega⟩
        obtain rfl : i = ((n' : Nat) : Int) := by omega
        exact ⟨S, R, m1, b1, rfl, hm1, Tk, fun H' v t a b c d e f g h => q H' v t a b c d (by omega) f g (by rcases h with h | ⟨h, h'⟩; exact .inl h; exact .inr ⟨by omega, h'⟩)⟩
      refine ⟨_, rfl, drw (k := 10) (m := m) (H := L2.upd H S (.lst [.ref R, .int j, .int 14, .int (bu - 1)])) T1 (by omega) (by decide) (by decide) fun H2 r hr2 T2 s2 off2 => ?_⟩
      have s12 := s1.trans s2
      obtain ⟨rs2, j2, T20, l2⟩ := id T2
      have hS2 := T20.at_
      refine ⟨_, rfl, rfl, _, rfl, if_by (fun e => if_yes rfl ?_) (fun e0 => ⟨_, rfl, S, _, _, _, rfl, rfl, sqH hS2, rfl, _, _, rfl, rfl, _, rfl, if_by (fun e => if_yes rfl ?_) (fun e1 => ⟨_, rfl, _, _, rfl, rfl, _, rfl, if_by (fun e => ?_) (fun e2 => ?_)⟩)⟩)⟩
      rotate_left 3
      · have hn1 : 1 ≤ n := by
          rcases Nat.eq_zero_or_pos n with z | z
          · subst z
            revert e0
            decide +kernel
          · exact z
        have hb : 0 < bu - 1 := by
          have := of_decide_eq_false e1
          omega
        have r2 : 2 ≤ r := by
          have := of_decide_eq_false e2
          omega
        refine ⟨_, rfl, _, _, rfl, rfl, _, rfl, if_by (fun e => ?_) (fun e4 => ?_)⟩
        · refine ⟨_, rfl, drw (k := 2) T2 (by omega) (by decide) (by decide) fun H3 q hq T3 s3 _ => ⟨rfl, _, rfl, if_by (fun e => ?_) (fun e => ?_)⟩⟩
          · refine ⟨(by decide : 5 ≤ sizeLine), fun D nD => ?_⟩
            refine ⟨_, rfl, drw (k := 5) (T3.upd (T3.ne nD)) (by omega) (by decide) (by decide) fun H4 q4 hq4 T4 s4 off4 => ?_⟩
            have hD4 : H4 D = some (.lst (wPl.map V.str)) := by rw [off4 D (T3.ne nD).1 (T3.ne nD).2]; exact upd_same
            obtain ⟨x, mx, hx⟩ := pick_of wPl (r := q4) (by show q4 < 5; omega)
            refine ⟨D, _, _, _, rfl, rfl, SqL.of hD4, atI_nat hx, (by decide : 2 ≤ sizeLine), fun T0 nT => ?_⟩
            have z := T4.ne nT
            refine k _ _ (.of x) (((T4.upd z).le (by show m + 1 + 1 + 1 ≤ m + 9 * 1; omega)).eq (by show bu - 1 = bu - ((1 : Nat) : Int); omega)) ((((s12.trans s3).trans (U_new nD)).trans s4).trans (U_new nT)) (mk_tupU nT z (.cons (.str _) (.cons (.str _) .nil))) (.inr mx) (Nat.zero_le _) (by show 1 ≤ _; omega) (.inr rfl) (.inl rfl)
          · refine ⟨_, rfl, nmw T3 (by omega) fun H4 x T4 s4 h1 h2 => ⟨(by decide : 2 ≤ sizeLine), fun T0 nT => ?_⟩⟩
            have z := T4.ne nT
            exact k _ _ (.of x) (((T4.upd z).le (by show m + 1 + 1 + 7 ≤ m + 9 * 1; omega)).eq (by show bu - 1 = bu - ((1 : Nat) : Int); omega)) (((s12.trans s3).trans s4).trans (U_new nT)) (mk_tupU nT z (.cons (.str _) (.cons (.str _) .nil))) (.inl ⟨h1, h2⟩) (Nat.zero_le _) (by show 1 ≤ _; omega) (.inr rfl) (.inl rfl)
        have r4 : 4 ≤ r := by
          have := of_decide_eq_false e4
          omega
        refine ⟨_, rfl, _, _, rfl, rfl, _, rfl, if_by (fun e => ?_) (fun e6 => ?_)⟩
        · have r6 : r < 6 := by
            have := of_decide_eq_true e
            omega
          refine ⟨(by decide : 2 ≤ sizeLine), fun D nD => ?_⟩
          obtain ⟨x, mx, hx⟩ := pick_of (["minus", "no"] : List Str) (r := r - 4) (by show r - 4 < 2; omega)
          have hx' : atI ((["minus", "no"] : List Str).map V.str) (((r : Nat) : Int) - 4) = some (.str x) := by
            rw [show ((r : Nat) : Int) - 4 = ((r - 4 : Nat) : Int) by omega]
            exact atI_nat hx
          refine ⟨_, rfl, _, _, rfl, rfl, D, _, _, _, rfl, rfl, SqL.of upd_same, hx', _, rfl, _, rfl, _, _, rfl, rfl, kid rfl hn1 (by omega) (T2.upd (T2.ne nD)) fun H3 v t T3 s3 dt nt ht zt it jt => ⟨(by decide : 2 ≤ sizeLine), fun T0 nT => ?_⟩⟩
          have z := T3.ne nT
          refine k _ _ (.one x t) (((T3.upd z).le (by show _ ≤ m + 9 * (1 + t.size); omega)).eq (by show bu - 1 - t.size = bu - ((1 + t.size : Nat) : Int); omega)) (((s12.trans (U_new nD)).trans s3).trans (U_new nT)) (mk_tupU nT z (.cons (.str _) (.cons dt .nil))) ⟨?_, nt⟩ (by show 1 + t.ht ≤ n; omega) (by show 1 + t.size ≤ _; omega) (.inl (by show ((1 + t.isz : Nat) : Int) ≤ bu - 1; omega)) (.inr ⟨by show ((1 + t.size : Nat) : Int) ≤ bu + 2 * (n : Nat); omega, by omega⟩)
          rcases List.mem_cons.mp mx with e | mx
          · exact .inl e
          · exact .inr (List.mem_singleton.mp mx)
        refine ⟨_, rfl, rfl, _, rfl, if_by (fun e => ?_) (fun e7 => ?_)⟩
        · refine ⟨_, rfl, _, rfl, _, _, rfl, rfl, kid rfl hn1 (by omega) T2 fun H3 v t T3 s3 dt nt ht zt it jt => ?_⟩
          refine ⟨_, rfl, _, rfl, _, _, rfl, rfl, kid rfl hn1 (by omega) T3 fun H4 v4 t4 T4 s4 dt4 nt4 ht4 zt4 it4 jt4 => ?_⟩
          refine ⟨_, rfl, _, rfl, _, _, rfl, rfl, kid rfl hn1 (by omega) T4 fun H5 v5 t5 T5 s5 dt5 nt5 ht5 zt5 it5 jt5 => ⟨(by decide : 4 ≤ sizeLine), fun T0 nT => ?_⟩⟩
          have z := T5.ne nT
          have i1 := isz_size t
          have i2 := isz_size t4
          have i3 := isz_size t5
          exact k _ _ (.three "choose" t t4 t5) (((T5.upd z).le (by show _ ≤ m + 9 * (1 + t.size + t4.size + t5.size); omega)).eq (by show bu - 1 - t.size - t4.size - t5.size = bu - ((1 + t.size + t4.size + t5.size : Nat) : Int); omega)) ((((s12.trans s3).trans s4).trans s5).trans (U_new nT))
            (mk_tupU nT z (.cons (.str _) (.cons (dp_same (s4.trans s5) dt) (.cons (dp_same s5 dt4) (.cons dt5 .nil))))) ⟨rfl, nt, nt4, nt5⟩ (by show 1 + max t.ht (max t4.ht t5.ht) ≤ n; omega) (by show 1 + t.size + t4.size + t5.size ≤ _; omega) (.inl (by show ((1 + t.isz + t4.isz + t5.isz : Nat) : Int) ≤ bu - 1; omega)) (.inr ⟨by show ((1 + t.size + t4.size + t5.size : Nat) : Int) ≤ bu + 2 * (n : Nat); omega, by omega⟩)
        refine ⟨(by decide : 13 ≤ sizeLine), fun D nD => ?_⟩
        refine ⟨_, rfl, drw (k := 13) (T2.upd (T2.ne nD)) (by omega) (by decide) (by decide) fun H3 q hq T3 s3 off3 => ?_⟩
        have hD3 : H3 D = some (.lst ((["*", "/", "^", "+", "-", "<", "<=", ">", ">=", "==", "!=", "&&", "||"] : List Str).map V.str)) := by rw [off3 D (T2.ne nD).1 (T2.ne nD).2]; exact upd_same
        obtain ⟨x, mx, hx⟩ := pick_of (["*", "/", "^", "+", "-", "<", "<=", ">", ">=", "==", "!=", "&&", "||"] : List Str) (r := q) (by show q < 13; omega)
        have ox : isOp x = true := (by decide +kernel : ∀ x ∈ (["*", "/", "^", "+", "-", "<", "<=", ">", ">=", "==", "!=", "&&", "||"] : List Str), isOp x = true) x mx
        refine ⟨D, _, _, _, rfl, rfl, SqL.of hD3, atI_nat hx, ?_⟩
        refine ⟨_, rfl, _, rfl, _, rfl, _, _, rfl, rfl, kid rfl hn1 (by omega) T3 fun H4 v4 t4 T4 s4 dt4 nt4 ht4 zt4 it4 jt4 => ?_⟩
        refine ⟨_, rfl, _, rfl, _, _, rfl, rfl, kid rfl hn1 (by omega) T4 fun H5 v5 t5 T5 s5 dt5 nt5 ht5 zt5 it5 jt5 => ⟨(by decide : 3 ≤ sizeLine), fun T0 nT => ?_⟩⟩
        have z := T5.ne nT
        have i2 := isz_size t4
        have i3 := isz_size t5
        exact k _ _ (.two x t4 t5) (((T5.upd z).le (by show _ ≤ m + 9 * (1 + t4.size + t5.size); omega)).eq (by show bu - 1 - t4.size - t5.size = bu - ((1 + t4.size + t5.size : Nat) : Int); omega)) (((((s12.trans (U_new nD)).trans s3).trans s4).trans s5).trans (U_new nT))
          (mk_tupU nT z (.cons (.str _) (.cons (dp_same s5 dt4) (.cons dt5 .nil)))) ⟨ox, nt4, nt5⟩ (by show 1 + max t4.ht t5.ht ≤ n; omega) (by show 1 + t4.size + t5.size ≤ _; omega) (.inl (by show ((1 + t4.isz + t5.isz : Nat) : Int) ≤ bu - 1; omega)) (.inr ⟨by show ((1 + t4.size + t5.size : Nat) : Int) ≤ bu + 2 * (n : Nat); omega, by omega⟩)
      all_goals
        refine ⟨_, rfl, _, _, rfl, rfl, ⟨by decide, by decide, by decide⟩, _, _, rfl, rfl, (by decide : 3 ≤ sizeLine), fun D nD => ?_⟩
        refine ⟨_, rfl, drw (k := 3) (T2.upd (T2.ne nD)) (by omega) (by decide) (by decide) fun H3 q hq T3 s3 off3 => ?_⟩
        have hD3 : H3 D = some (.lst ([3, 12, 10 ^ 18 + 1].map V.int)) := by rw [off3 D (T2.ne nD).1 (T2.ne nD).2]; exact upd_same
        obtain ⟨c, hc, c0, c1⟩ : ∃ c : Int, ([3, 12, 10 ^ 18 + 1].map V.int)[q]? = some (.int c) ∧ 0 < c ∧ c ≤ 10 ^ 18 + 1 := by
          rcases q with _ | _ | _ | q
          · exact ⟨_, rfl, by decide, by decide⟩
          · exact ⟨_, rfl, by decide, by decide⟩
          · exact ⟨_, rfl, by decide, by decide⟩
          · omega
        refine ⟨D, _, _, _, rfl, rfl, SqL.of hD3, atI_nat hc, drw (k := c) T3 (by omega) c0 (Int.le_trans c1 (by decide)) fun H4 q4 hq4 T4 s4 _ => ⟨(by decide : 2 ≤ sizeLine), fun T0 nT => ?_⟩⟩
        have z := T4.ne nT
        exact k _ _ (.num (q4 : Nat)) (((T4.upd z).le (by show m + 1 + 1 + 1 ≤ m + 9 * 1; omega)).eq (by show bu - 1 = bu - ((1 : Nat) : Int); omega)) ((((s12.trans (U_new nD)).trans s3).trans s4).trans (U_new nT)) (mk_tupU nT z (.cons (.str _) (.cons (.int _) .nil))) ⟨by omega, by omega⟩ (Nat.zero_le _) (by show 1 ≤ _; omega) (.inr rfl) (.inl rfl)
end
end Qb
end PySem
namespace PySem
namespace Qb
open PySem.W PySem.Calls PyProof.Rows L2
/-! # how a sum is shown by repr -/
def safeC : L := namC ++ [35, 63, 38, 124, 60, 62, 61, 33, 42, 47, 94, 43, 45]
abbrev qt (w : L) : L := 39 :: (w ++ [39])
theorem safe_char : ∀ c ∈ safeC, Builtin.Str.reprChar 39 c = [c] ∧ c ≠ 39 ∧ c < 1114112 := by decide +kernel
theorem repr_safe {w : Str} (h : ∀ c ∈ cs w, c ∈ safeC) : cs (reprText w) = qt (cs w) := by
  have hq : reprQuote w = 39 := by
    unfold reprQuote
    have e : w.cps.contains 39 = false := by
      rw [Array.contains_eq_mem]
      refine decide_eq_false fun m => ?_
      exact (safe_char 39 (h 39 (by simpa [cs] using m))).2.1 rfl
    rw [e]
    rfl
  have key : ∀ (l : L) (acc : Array Nat), (∀ c ∈ l, c ∈ safeC) → (l.foldl (fun out c => out ++ (Builtin.Str.reprChar 39 c).toArray) acc).toList = acc.toList ++ l := by
    intro l
    induction l with
    | nil => intro acc _; simp
    | cons c l ih =>
      intro acc hl
      rw [List.foldl_cons, ih _ fun d m => hl d (.tail _ m), (safe_char c (hl c (.head _))).1]
      simp
  show ((w.cps.foldl (fun out c => out ++ (Builtin.Str.reprChar (reprQuote w) c).toArray) #[reprQuote w]).push (reprQuote w)).toList = _
  rw [hq, ← Array.foldl_toList, Array.toList_push, key _ _ h]
  simp
def Sm.rp : Sm → L
  | .num n => 40 :: (qt (cs ("number" : Str)) ++ 44 :: 32 :: (cs (Str.ofString (toString n)) ++ [41]))
  | .of w => 40 :: (qt (cs ("of" : Str)) ++ 44 :: 32 :: (qt (cs w) ++ [41]))
  | .one s a => 40 :: (qt (cs s) ++ 44 :: 32 :: (a.rp ++ [41]))
  | .two s a b => 40 :: (qt (cs s) ++ 44 :: 32 :: (a.rp ++ 44 :: 32 :: (b.rp ++ [41])))
  | .three s a b c => 40 :: (qt (cs s) ++ 44 :: 32 :: (a.rp ++ 44 :: 32 :: (b.rp ++ 44 :: 32 :: (c.rp ++ [41]))))
theorem kd_safe : ∀ {t : Sm}, t.good → ∀ c ∈ cs t.kd, c ∈ safeC
  | .num _, _ => (by decide +kernel : ∀ c ∈ cs ("number" : Str), c ∈ safeC)
  | .of _, _ => (by decide +kernel : ∀ c ∈ cs ("of" : Str), c ∈ safeC)
  | .one s a, h => by
    show ∀ c ∈ cs s, c ∈ safeC
    rcases h.1 with rfl | rfl
    · decide +kernel
    · decide +kernel
  | .two s a b, h => by
    show ∀ c ∈ cs s, c ∈ safeC
    obtain ⟨c, m⟩ := op_tpk h.1
    exact (by decide +kernel : ∀ p ∈ tpk, ∀ c ∈ cs p.1, c ∈ safeC) _ m
  | .three s a b c, h => by
    show ∀ c ∈ cs s, c ∈ safeC
    rw [h.1]
    decide +kernel
theorem safe_in {c : Nat} (h : safe c) : c ∈ safeC := by
  rcases h with h | rfl | rfl
  · exact List.mem_append_left _ h
  · decide +kernel
  · decide +kernel
theorem tup_cs : ∀ (a b : Str) (r : List Str), cs (tupleText (a :: b :: r)) = 40 :: (TL.joinL [44, 32] ((a :: b :: r).map TL.tl) ++ [41]) := by
  intro a b r
  unfold tupleText
  rw [cs_app, cs_app]
  have e1 : cs (Str.ofString "(") = [40] := by decide +kernel
  have e2 : cs (Str.ofString ")") = [41] := by decide +kernel
  have e3 : ((a :: b :: r).length == 1) = false := by simp
  have e4 : cs ((Str.ofString ", ").join (a :: b :: r)) = TL.joinL (TL.tl (Str.ofString ", ")) ((a :: b :: r).map TL.tl) := TL.tl_join _ _
  have e5 : TL.tl (Str.ofString ", ") = [44, 32] := by decide +kernel
  rw [e3, if_neg (by decide), e1, e2, e4, e5]
  simp
theorem shown_rp : ∀ {t : Sm}, t.good → cs t.d.shown = t.rp
  | .num n, h => by
    have e : (Sm.num n).d.shown = tupleText [reprText "number", Str.ofString (toString n)] := by
      show (PyData.tuple _).shown = _
      rw [PyData.shown.eq_6, PyData.shownAll.eq_2, PyData.shownAll.eq_2, PyData.shownAll.eq_1, PyData.shown.eq_4, PyData.shown.eq_3]
    rw [e, tup_cs]
    have e2 : TL.tl (reprText ("number" : Str)) = qt (cs ("number" : Str)) := repr_safe (kd_safe (t := .num n) h)
    show 40 :: ((TL.tl (reprText ("number" : Str)) ++ ([44, 32] ++ TL.tl (Str.ofString (toString n)))) ++ [41]) = _
    rw [e2]
    show 40 :: ((qt (cs ("number" : Str)) ++ ([44, 32] ++ cs (Str.ofString (toString n)))) ++ [41]) = 40 :: (qt (cs ("number" : Str)) ++ 44 :: 32 :: (cs (Str.ofString (toString n)) ++ [41]))
    simp
  | .of w, h => by
    have e : (Sm.of w).d.shown = tupleText [reprText "of", reprText w] := by
      show (PyData.tuple _).shown = _
      rw [PyData.shown.eq_6, PyData.shownAll.eq_2, PyData.shownAll.eq_2, PyData.shownAll.eq_1, PyData.shown.eq_4, PyData.shown.eq_4]
    rw [e, tup_cs]
    have e2 : TL.tl (reprText ("of" : Str)) = qt (cs ("of" : Str)) := repr_safe (kd_safe (t := .of w) h)
    have e3 : TL.tl (reprText w) = qt (cs w) := repr_safe fun c m => safe_in (h c m)
    show 40 :: ((TL.tl (reprText ("of" : Str)) ++ ([44, 32] ++ TL.tl (reprText w))) ++ [41]) = 40 :: (qt (cs ("of" : Str)) ++ 44 :: 32 :: (qt (cs w) ++ [41]))
    rw [e2, e3]
    simp
  | .one s a, h => by
    have e : (Sm.one s a).d.shown = tupleText [reprText s, a.d.shown] := by
      show (PyData.tuple [.str s, a.d]).shown = _
      rw [PyData.shown.eq_6, PyData.shownAll.eq_2, PyData.shownAll.eq_2, PyData.shownAll.eq_1, PyData.shown.eq_4]
    rw [e, tup_cs]
    have e2 : TL.tl (reprText s) = qt (cs s) := repr_safe (kd_safe (t := .one s a) h)
    have e3 : TL.tl a.d.shown = a.rp := shown_rp h.2
    show 40 :: ((TL.tl (reprText s) ++ ([44, 32] ++ TL.tl a.d.shown)) ++ [41]) = 40 :: (qt (cs s) ++ 44 :: 32 :: (a.rp ++ [41]))
    rw [e2, e3]
    simp
  | .two s a b, h => by
    have e : (Sm.two s a b).d.shown = tupleText [reprText s, a.d.shown, b.d.shown] := by
      show (PyData.tuple [.str s, a.d, b.d]).shown = _
      rw [PyData.shown.eq_6, PyData.shownAll.eq_2, PyData.shownAll.eq_2, PyData.shownAll.eq_2, PyData.shownAll.eq_1, PyData.shown.eq_4]
    rw [e, tup_cs]
    have e2 : TL.tl (reprText s) = qt (cs s) := repr_safe (kd_safe (t := .two s a b) h)
    have e3 : TL.tl a.d.shown = a.rp := shown_rp h.2.1
    have e4 : TL.tl b.d.shown = b.rp := shown_rp h.2.2
    show 40 :: ((TL.tl (reprText s) ++ ([44, 32] ++ (TL.tl a.d.shown ++ ([44, 32] ++ TL.tl b.d.shown)))) ++ [41]) = 40 :: (qt (cs s) ++ 44 :: 32 :: (a.rp ++ 44 :: 32 :: (b.rp ++ [41])))
    rw [e2, e3, e4]
    simp
  | .three s a b c, h => by
    have e : (Sm.three s a b c).d.shown = tupleText [reprText s, a.d.shown, b.d.shown, c.d.shown] := by
      show (PyData.tuple [.str s, a.d, b.d, c.d]).shown = _
      rw [PyData.shown.eq_6, PyData.shownAll.eq_2, PyData.shownAll.eq_2, PyData.shownAll.eq_2, PyData.shownAll.eq_2, PyData.shownAll.eq_1, PyData.shown.eq_4]
    rw [e, tup_cs]
    have e2 : TL.tl (reprText s) = qt (cs s) := repr_safe (kd_safe (t := .three s a b c) h)
    have e3 : TL.tl a.d.shown = a.rp := shown_rp h.2.1
    have e4 : TL.tl b.d.shown = b.rp := shown_rp h.2.2.1
    have e5 : TL.tl c.d.shown = c.rp := shown_rp h.2.2.2
    show 40 :: ((TL.tl (reprText s) ++ ([44, 32] ++ (TL.tl a.d.shown ++ ([44, 32] ++ (TL.tl b.d.shown ++ ([44, 32] ++ TL.tl c.d.shown)))))) ++ [41]) = 40 :: (qt (cs s) ++ 44 :: 32 :: (a.rp ++ 44 :: 32 :: (b.rp ++ 44 :: 32 :: (c.rp ++ [41]))))
    rw [e2, e3, e4, e5]
    simp
theorem rp_len : ∀ {t : Sm}, t.good → t.rp.length ≤ t.rl
  | .num n, h => by
    show (40 :: (qt (cs ("number" : Str)) ++ 44 :: 32 :: (cs (Str.ofString (toString n)) ++ [41]))).length ≤ 12 + (toString n).length
    have e : (cs (Str.ofString (toString n))).length = (toString n).length := by
      rw [← len_cs]
      exact PyProof.Rows.ofString_length _
    have e2 : (cs ("number" : Str)).length = 6 := by decide +kernel
    simp only [List.length_cons, List.length_append, List.length_nil, e, e2]
    omega
  | .of w, h => by
    show (40 :: (qt (cs ("of" : Str)) ++ 44 :: 32 :: (qt (cs w) ++ [41]))).length ≤ 10 + w.length
    have e2 : (cs ("of" : Str)).length = 2 := by decide +kernel
    rw [len_cs]
    simp only [List.length_cons, List.length_append, List.length_nil, e2]
    omega
  | .one s a, h => by
    show (40 :: (qt (cs s) ++ 44 :: 32 :: (a.rp ++ [41]))).length ≤ 11 + a.rl
    have e2 : (cs s).length ≤ 5 := by
      rcases h.1 with rfl | rfl
      · decide +kernel
      · decide +kernel
    have := rp_len h.2
    simp only [List.length_cons, List.length_append, List.length_nil]
    omega
  | .two s a b, h => by
    show (40 :: (qt (cs s) ++ 44 :: 32 :: (a.rp ++ 44 :: 32 :: (b.rp ++ [41])))).length ≤ 10 + a.rl + b.rl
    have e2 : (cs s).length ≤ 2 := by
      obtain ⟨c, m⟩ := op_tpk h.1
      exact (by decide +kernel : ∀ p ∈ tpk, (cs p.1).length ≤ 2) _ m
    have := rp_len h.2.1
    have := rp_len h.2.2
    simp only [List.length_cons, List.length_append, List.length_nil]
    omega
  | .three s a b c, h => by
    show (40 :: (qt (cs s) ++ 44 :: 32 :: (a.rp ++ 44 :: 32 :: (b.rp ++ 44 :: 32 :: (c.rp ++ [41]))))).length ≤ 16 + a.rl + b.rl + c.rl
    have e2 : (cs s).length ≤ 6 := by
      rw [h.1]
      decide +kernel
    have := rp_len h.2.1
    have := rp_len h.2.2.1
    have := rp_len h.2.2.2
    simp only [List.length_cons, List.length_append, List.length_nil]
    omega
theorem split_c {c : Nat} : ∀ {l1 l2 x y : L}, c ∉ l1 → c ∉ l2 → l1 ++ c :: x = l2 ++ c :: y → l1 = l2 ∧ x = y
  | [], [], x, y, _, _, h => ⟨rfl, (List.cons.inj h).2⟩
  | [], d :: l2, x, y, _, h2, h => by
    have z := (List.cons.inj h).1
    exact (h2 (by rw [z]; exact .head _)).elim
  | d :: l1, [], x, y, h1, _, h => by
    have z := (List.cons.inj h).1
    exact (h1 (by rw [← z]; exact .head _)).elim
  | d :: l1, e :: l2, x, y, h1, h2, h => by
    obtain ⟨a, b⟩ := List.cons.inj h
    obtain ⟨p, q⟩ := split_c (fun m => h1 (.tail _ m)) (fun m => h2 (.tail _ m)) b
    exact ⟨by rw [a, p], q⟩
theorem qt_split {k1 k2 x y : L} (h1 : 39 ∉ k1) (h2 : 39 ∉ k2) (h : qt k1 ++ x = qt k2 ++ y) : k1 = k2 ∧ x = y := by
  have h' : 39 :: ((k1 ++ [39]) ++ x) = 39 :: ((k2 ++ [39]) ++ y) := h
  have h2' := (List.cons.inj h').2
  rw [List.append_assoc, List.append_assoc] at h2'
  exact split_c h1 h2 h2'
def Sm.kc : Sm → Nat
  | .num _ => 0
  | .of _ => 1
  | .one _ _ => 2
  | .two _ _ _ => 3
  | .three _ _ _ _ => 4
def kcOf (s : Str) : Nat := if s = "number" then 0 else if s = "of" then 1 else if s = "minus" ∨ s = "no" then 2 else if s = "choose" then 4 else 3
theorem kc_of : ∀ {t : Sm}, t.good → kcOf t.kd = t.kc
  | .num _, _ => rfl
  | .of _, _ => (by decide +kernel : kcOf "of" = 1)
  | .one s a, h => by
    show kcOf s = 2
    rcases h.1 with rfl | rfl
    · decide +kernel
    · decide +kernel
  | .two s a b, h => by
    show kcOf s = 3
    obtain ⟨c, m⟩ := op_tpk h.1
    exact (by decide +kernel : ∀ p ∈ tpk, kcOf p.1 = 3) _ m
  | .three s a b c, h => by
    show kcOf s = 4
    rw [h.1]
    decide +kernel
def Sm.tl : Sm → L
  | .num n => cs (Str.ofString (toString n)) ++ [41]
  | .of w => qt (cs w) ++ [41]
  | .one _ a => a.rp ++ [41]
  | .two _ a b => a.rp ++ 44 :: 32 :: (b.rp ++ [41])
  | .three _ a b c => a.rp ++ 44 :: 32 :: (b.rp ++ 44 :: 32 :: (c.rp ++ [41]))
theorem rp_tl (t : Sm) : t.rp = 40 :: (qt (cs t.kd) ++ 44 :: 32 :: t.tl) := by
  cases t <;> rfl
theorem rp_kd (t : Sm) : ∃ z, t.rp = 40 :: (qt (cs t.kd) ++ 44 :: 32 :: z) := ⟨t.tl, rp_tl t⟩
theorem no39 {w : L} (h : ∀ c ∈ w, c ∈ safeC) : 39 ∉ w := fun m => (safe_char 39 (h 39 m)).2.1 rfl
theorem head_split {a b : Sm} (ha : a.good) (hb : b.good) {r r' : L} (h : a.rp ++ r = b.rp ++ r') : a.kd = b.kd ∧ a.kc = b.kc ∧ a.tl ++ r = b.tl ++ r' := by
  have h1 : 40 :: (qt (cs a.kd) ++ (44 :: 32 :: (a.tl ++ r))) = 40 :: (qt (cs b.kd) ++ (44 :: 32 :: (b.tl ++ r'))) := by
    rw [rp_tl a, rp_tl b] at h
    simpa using h
  obtain ⟨ek, e2⟩ := qt_split (no39 (kd_safe ha)) (no39 (kd_safe hb)) (List.cons.inj h1).2
  have ek' : a.kd = b.kd := by rw [← st_cs a.kd, ek, st_cs]
  refine ⟨ek', (kc_of ha).symm.trans ((congrArg kcOf ek').trans (kc_of hb)), ?_⟩
  exact (List.cons.inj (List.cons.inj e2).2).2
theorem rp_inj : ∀ {a b : Sm}, a.good → b.good → ∀ {r r' : L}, a.rp ++ r = b.rp ++ r' → a = b ∧ r = r' := by
  intro a
  induction a with
  | num n =>
    intro b ha hb r r' h
    obtain ⟨ek, kc, h4⟩ := head_split ha hb h
    cases b with
    | num m =>
      have h4 : (cs (Str.ofString (toString n)) ++ [41]) ++ r = (cs (Str.ofString (toString m)) ++ [41]) ++ r' := h4
      rw [List.append_assoc, List.append_assoc] at h4
      obtain ⟨n', rfl⟩ : ∃ k : Nat, n = k := ⟨n.toNat, (Int.toNat_of_nonneg ha.1).symm⟩
      obtain ⟨m', rfl⟩ : ∃ k : Nat, m = k := ⟨m.toNat, (Int.toNat_of_nonneg hb.1).symm⟩
      have d41 : ∀ k : Nat, 41 ∉ nmC k := fun k mm => (by decide : 41 ∉ digC) ((nmC_ok k).2.1 41 mm)
      obtain ⟨e1, e2⟩ := split_c (d41 n') (d41 m') h4
      have e3 := congrArg digVal e1
      rw [(nmC_ok n').2.2.2, (nmC_ok m').2.2.2] at e3
      exact ⟨by rw [e3], e2⟩
    | of w => cases kc
    | one s x => cases kc
    | two s x y => cases kc
    | three s x y z => cases kc
  | of w =>
    intro b ha hb r r' h
    obtain ⟨ek, kc, h4⟩ := head_split ha hb h
    cases b with
    | of u =>
      have h4 : (qt (cs w) ++ [41]) ++ r = (qt (cs u) ++ [41]) ++ r' := h4
      rw [List.append_assoc, List.append_assoc] at h4
      obtain ⟨e1, e2⟩ := qt_split (no39 fun c m => safe_in (ha c m)) (no39 fun c m => safe_in (hb c m)) h4
      have e3 : w = u := by rw [← st_cs w, e1, st_cs]
      exact ⟨by rw [e3], (List.cons.inj e2).2⟩
    | num m => cases kc
    | one s x => cases kc
    | two s x y => cases kc
    | three s x y z => cases kc
  | one s x ihx =>
    intro b ha hb r r' h
    obtain ⟨ek, kc, h4⟩ := head_split ha hb h
    cases b with
    | one u y =>
      have eu : s = u := ek
      subst eu
      have h4 : (x.rp ++ [41]) ++ r = (y.rp ++ [41]) ++ r' := h4
      rw [List.append_assoc, List.append_assoc] at h4
      obtain ⟨e1, e2⟩ := ihx ha.2 hb.2 h4
      exact ⟨by rw [e1], (List.cons.inj e2).2⟩
    | num m => cases kc
    | of w => cases kc
    | two s x y => cases kc
    | three s x y z => cases kc
  | two s x y ihx ihy =>
    intro b ha hb r r' h
    obtain ⟨ek, kc, h4⟩ := head_split ha hb h
    cases b with
    | two u x2 y2 =>
      have eu : s = u := ek
      subst eu
      have h4 : (x.rp ++ 44 :: 32 :: (y.rp ++ [41])) ++ r = (x2.rp ++ 44 :: 32 :: (y2.rp ++ [41])) ++ r' := h4
      rw [List.append_assoc, List.append_assoc] at h4
      obtain ⟨e1, e2⟩ := ihx ha.2.1 hb.2.1 h4
      have h5 : (y.rp ++ [41]) ++ r = (y2.rp ++ [41]) ++ r' := (List.cons.inj (List.cons.inj e2).2).2
      rw [List.append_assoc, List.append_assoc] at h5
      obtain ⟨e3, e4⟩ := ihy ha.2.2 hb.2.2 h5
      exact ⟨by rw [e1, e3], (List.cons.inj e4).2⟩
    | num m => cases kc
    | of w => cases kc
    | one s x => cases kc
    | three s x y z => cases kc
  | three s x y w ihx ihy ihw =>
    intro b ha hb r r' h
    obtain ⟨ek, kc, h4⟩ := head_split ha hb h
    cases b with
    | three u x2 y2 w2 =>
      have eu : s = u := ek
      subst eu
      have h4 : (x.rp ++ 44 :: 32 :: (y.rp ++ 44 :: 32 :: (w.rp ++ [41]))) ++ r = (x2.rp ++ 44 :: 32 :: (y2.rp ++ 44 :: 32 :: (w2.rp ++ [41]))) ++ r' := h4
      rw [List.append_assoc, List.append_assoc] at h4
      obtain ⟨e1, e2⟩ := ihx ha.2.1 hb.2.1 h4
      have h5 : (y.rp ++ 44 :: 32 :: (w.rp ++ [41])) ++ r = (y2.rp ++ 44 :: 32 :: (w2.rp ++ [41])) ++ r' := (List.cons.inj (List.cons.inj e2).2).2
      rw [List.append_assoc, List.append_assoc] at h5
      obtain ⟨e3, e4⟩ := ihy ha.2.2.1 hb.2.2.1 h5
      have h6 : (w.rp ++ [41]) ++ r = (w2.rp ++ [41]) ++ r' := (List.cons.inj (List.cons.inj e4).2).2
      rw [List.append_assoc, List.append_assoc] at h6
      obtain ⟨e5, e6⟩ := ihw ha.2.2.2 hb.2.2.2 h6
      exact ⟨by rw [e1, e3, e5], (List.cons.inj e6).2⟩
    | num m => cases kc
    | of w => cases kc
    | one s x => cases kc
    | two s x y => cases kc
theorem shown_inj {a b : Sm} (ha : a.good) (hb : b.good) (h : a.d.shown = b.d.shown) : a = b := by
  have z := congrArg cs h
  rw [shown_rp ha, shown_rp hb] at z
  exact (rp_inj ha hb (r := []) (r' := []) (by rw [z])).1
theorem shown_none {a : Sm} (ha : a.good) : a.d.shown ≠ ("None" : Str) := fun h => by
  have z := congrArg cs h
  rw [shown_rp ha] at z
  obtain ⟨y, ey⟩ := rp_kd a
  rw [ey, show cs ("None" : Str) = [78, 111, 110, 101] by decide +kernel] at z
  cases z
end Qb
end PySem
namespace PySem
namespace Qb
open PySem.W PySem.Calls PyProof.Rows L2
/-! # what a drawn sum's text is -/
theorem Rn_len {k : Nat} {l : L} (h : l.length ≤ k) : Rn k l := fun p q s e _ => by
  have z := congrArg List.length e
  simp only [List.length_append] at z
  omega
theorem Rn_cat {k c : Nat} {a b : L} (ha : Rn k a) (hb : Rn k b) (hc : c ∉ digC) : Rn k (a ++ c :: b) := fun p q s e d => by
  rcases List.append_eq_append_iff.mp e with ⟨a', e1, e2⟩ | ⟨c', e1, e2⟩
  · cases a' with
    | nil =>
      cases q with
      | nil => exact Nat.zero_le _
      | cons x q =>
        have := (List.cons.inj e2).1
        exact (hc (by rw [this]; exact d x (.head _))).elim
    | cons y a' =>
      have z := (List.cons.inj e2).2
      exact hb a' q s z d
  · rcases List.append_eq_append_iff.mp e2 with ⟨x, e3, e4⟩ | ⟨x, e3, e4⟩
    · exact ha p q x (by rw [e1, e3]) d
    · cases x with
      | nil =>
        rw [List.append_nil] at e3
        exact ha p q [] (by rw [e1, List.append_nil, e3]) d
      | cons y x =>
        have := (List.cons.inj e4).1
        exact (hc (by rw [this]; exact d y (by rw [e3]; exact List.mem_append_right _ (.head _)))).elim
theorem Rn_del {k c : Nat} {a b : L} (h : Rn k (a ++ c :: b)) : Rn (2 * k) (a ++ b) := fun p q s e d => by
  rcases List.append_eq_append_iff.mp e with ⟨a', e1, e2⟩ | ⟨c', e1, e2⟩
  · have := h (a ++ c :: a') q s (by rw [e2]; simp) d
    omega
  · rcases List.append_eq_append_iff.mp e2 with ⟨x, e3, e4⟩ | ⟨x, e3, e4⟩
    · have := h p q (x ++ c :: b) (by rw [e1, e3]; simp) d
      omega
    · have h1 := h p c' (c :: b) (by rw [e1]; simp) fun z m => d z (by rw [e3]; exact List.mem_append_left _ m)
      have h2 := h (a ++ [c]) x s (by rw [e4]; simp) fun z m => d z (by rw [e3]; exact List.mem_append_right _ m)
      rw [e3, List.length_append]
      omega
def nd (l : L) : Prop := ∀ p s, l ≠ p ++ 32 :: 32 :: s
theorem nd_no {l : L} (h : 32 ∉ l) : nd l := fun p s e => h (by rw [e]; exact List.mem_append_right _ (.head _))
theorem nd_cat {a r : L} (ha : nd a) (hl : ∀ q, a ≠ q ++ [32]) (hr : nd r) (hh : ∀ q, r ≠ 32 :: q) : nd (a ++ 32 :: r) := fun p s e => by
  rcases List.append_eq_append_iff.mp e with ⟨a', e1, e2⟩ | ⟨c', e1, e2⟩
  · cases a' with
    | nil => exact hh s (List.cons.inj e2).2
    | cons y a' => exact hr a' s (List.cons.inj e2).2
  · rcases c' with _ | ⟨y, _ | ⟨z, c'⟩⟩
    · exact hh s (List.cons.inj e2).2.symm
    · have := (List.cons.inj e2).1
      exact hl p (by rw [e1, ← this])
    · have h1 := (List.cons.inj e2).1
      have h2 := (List.cons.inj (List.cons.inj e2).2).1
      exact ha p c' (by rw [e1, ← h1, ← h2])
theorem nd_cons {x : Nat} {l : L} (h : nd l) (hx : x ≠ 32) : nd (x :: l) := fun p s e => by
  cases p with
  | nil => exact hx (List.cons.inj e).1
  | cons y p => exact h p s (List.cons.inj e).2
theorem nd_snoc {x : Nat} {l : L} (h : nd l) (hx : x ≠ 32) : nd (l ++ [x]) := fun p s e => by
  rcases List.append_eq_append_iff.mp e with ⟨a', e1, e2⟩ | ⟨c', e1, e2⟩
  · have := congrArg List.length e2
    simp only [List.length_append, List.length_cons, List.length_nil] at this
    omega
  · rcases c' with _ | ⟨y, _ | ⟨z, c'⟩⟩
    · have := congrArg List.length e2
      simp at this
    · exact hx (List.cons.inj (List.cons.inj e2).2).1.symm
    · have h1 := (List.cons.inj e2).1
      have h2 := (List.cons.inj (List.cons.inj e2).2).1
      exact h p c' (by rw [e1, ← h1, ← h2])
def hdC : L := namC ++ [36, 40, 45, 33]
def ltC : L := namC ++ [35, 63, 41]
structure Ti (l : L) : Prop where
  hd : ∃ c r, l = c :: r ∧ c ∈ hdC
  lt : ∃ q c, l = q ++ [c] ∧ c ∈ ltC
  nd : nd l
theorem Ti.nl {l : L} (h : Ti l) : ∀ q, l ≠ q ++ [32] := fun q e => by
  obtain ⟨q', c, e2, m⟩ := h.lt
  rw [e2] at e
  have := (List.append_inj' e rfl).2
  rw [(List.cons.inj this).1] at m
  revert m
  decide +kernel
theorem Ti.nh {l : L} (h : Ti l) : ∀ q, l ≠ 32 :: q := fun q e => by
  obtain ⟨c, r, e2, m⟩ := h.hd
  rw [e2] at e
  rw [(List.cons.inj e).1] at m
  revert m
  decide +kernel
theorem Ti.par {l : L} (h : Ti l) (b : Bool) : Ti (par b l) := by
  cases b
  · exact h
  · exact ⟨⟨40, _, rfl, by decide +kernel⟩, ⟨40 :: l, 41, rfl, by decide +kernel⟩, nd_cons (nd_snoc h.nd (by decide)) (by decide)⟩
theorem Ti.cat {a b m : L} (ha : Ti a) (hb : Ti b) (hm : 32 ∉ m) (hn : m ≠ []) : Ti (a ++ 32 :: (m ++ 32 :: b)) := by
  have nm : ∀ q, m ≠ 32 :: q := fun q e => hm (by rw [e]; exact .head _)
  have nl : ∀ q, m ≠ q ++ [32] := fun q e => hm (by rw [e]; exact List.mem_append_right _ (.head _))
  refine ⟨?_, ?_, nd_cat ha.nd ha.nl (nd_cat (nd_no hm) nl hb.nd hb.nh) fun q e => ?_⟩
  · obtain ⟨c, r, e, k⟩ := ha.hd
    exact ⟨c, _, by rw [e]; rfl, k⟩
  · obtain ⟨q, c, e, k⟩ := hb.lt
    exact ⟨a ++ 32 :: (m ++ 32 :: q), c, by rw [e]; simp, k⟩
  · cases m with
    | nil => exact hn rfl
    | cons x m => exact nm m (by rw [(List.cons.inj e).1])
theorem sum_zero {g : Nat → Nat} {l : L} (h : ∀ c ∈ l, g c = 0) : (l.map g).sum = 0 := by
  induction l with
  | nil => rfl
  | cons c l ih =>
    rw [List.map_cons, List.sum_cons, h c (.head _), ih fun d m => h d (.tail _ m)]
theorem cnt_zero {l : L} (h : ∀ c ∈ l, c ≠ 40) : cnt l = 0 := List.countP_eq_zero.mpr fun c m => by simpa using h c m
/-- what a leaf's text is -/
structure Leaf (l : L) : Prop where
  ti : Ti l
  wt : wt l ≤ 1
  w2 : w2 l = 0
  cnt : cnt l = 0
  rn : Rn 19 l
  len : l.length ≤ 19
theorem leaf_nam {l : L} (hn : l ≠ []) (h : ∀ c ∈ l, c ∈ namC) (hl : l.length ≤ 19) : Leaf l := by
  have k0 : ∀ c ∈ namC, wc c = 0 ∧ w2c c = 0 ∧ c ≠ 40 ∧ c ≠ 32 := by decide +kernel
  refine ⟨⟨?_, ?_, nd_no fun m => (k0 _ (h _ m)).2.2.2 rfl⟩, ?_, sum_zero fun c m => (k0 c (h c m)).2.1, cnt_zero fun c m => (k0 c (h c m)).2.2.1, Rn_len hl, hl⟩
  · cases l with
    | nil => exact (hn rfl).elim
    | cons c r => exact ⟨c, r, rfl, List.mem_append_left _ (h c (.head _))⟩
  · exact ⟨l.dropLast, l.getLast hn, (List.dropLast_concat_getLast hn).symm, List.mem_append_left _ (h _ (List.getLast_mem hn))⟩
  · rw [show wt l = 0 from sum_zero fun c m => (k0 c (h c m)).1]
    exact Nat.zero_le _
theorem leaf_pl {w : Str} (h : w ∈ wPl) : isNm (cs w) = false ∧ Leaf (36 :: cs w) := by
  have key : ∀ w ∈ wPl, isNm (cs w) = false ∧ wt (36 :: cs w) ≤ 1 ∧ w2 (36 :: cs w) = 0 ∧ cnt (36 :: cs w) = 0 ∧ (36 :: cs w).length ≤ 19 ∧ 32 ∉ (36 :: cs w) ∧ (36 :: cs w).getLast (by simp) ∈ ltC := by decide +kernel
  obtain ⟨a, b, c, d, e, f, g⟩ := key w h
  exact ⟨a, ⟨⟨36, _, rfl, by decide +kernel⟩, ⟨(36 :: cs w).dropLast, _, (List.dropLast_concat_getLast (by simp)).symm, g⟩, nd_no f⟩, b, c, d, Rn_len e, e⟩
theorem leaf_num {n : Int} (h0 : 0 ≤ n) (h1 : n ≤ 10 ^ 18) : Leaf (Sm.num n).shw := by
  obtain ⟨k, rfl⟩ : ∃ k : Nat, n = k := ⟨n.toNat, (Int.toNat_of_nonneg h0).symm⟩
  obtain ⟨a, b, _, _⟩ := nmC_ok k
  refine leaf_nam a (fun c m => (by decide +kernel : ∀ c ∈ digC, c ∈ namC) c (b c m)) ?_
  show (cs (Str.ofString (toString ((k : Nat) : Int)))).length ≤ 19
  rw [← len_cs, PyProof.Rows.ofString_length]
  exact len_str_int (k := 19) (by have : (k : Int) < 10 ^ 19 := Int.lt_of_le_of_lt h1 (by decide); exact_mod_cast this) (by decide)
theorem leaf_of {w : Str} (h : (Sm.of w).drn) : Leaf (Sm.of w).shw := by
  show Leaf (if isNm (cs w) then cs w else 36 :: cs w)
  rcases h with ⟨h, l⟩ | h
  · rw [name_nm] at h
    rw [if_pos h]
    obtain ⟨c, r, e, m, al⟩ := nm_cons h
    refine leaf_nam (by rw [e]; simp) (fun d md => ?_) (by rw [← len_cs]; omega)
    rw [e] at md
    rcases List.mem_cons.mp md with rfl | md
    · exact sta_nam _ m
    · exact al d md
  · obtain ⟨a, b⟩ := leaf_pl h
    rw [a, if_neg (by decide)]
    exact b
theorem drn_ok : ∀ {t : Sm}, t.drn → t.ok = true ∧ t.fine ∧ t.good
  | .num n, h => ⟨decide_eq_true h.1, trivial, h.1, Int.lt_of_le_of_lt h.2 (by decide)⟩
  | .of w, h => by
    rcases h with ⟨h, l⟩ | h
    · refine ⟨?_, Nat.le_trans l (by decide), fun c m => ?_⟩
      · show (isNameB (cs w) || _) = true
        rw [h]
        rfl
      · rw [name_nm] at h
        obtain ⟨d, r, e, md, al⟩ := nm_cons h
        rw [e] at m
        rcases List.mem_cons.mp m with rfl | m
        · exact .inl (sta_nam _ md)
        · exact .inl (al c m)
    · have key : ∀ w ∈ wPl, (Sm.of w).ok = true ∧ w.length ≤ big ∧ ∀ c ∈ cs w, c ∈ namC ∨ c = 35 ∨ c = 63 := by decide +kernel
      exact key w h
  | .one s a, h => by
    obtain ⟨o, f, g⟩ := drn_ok h.2
    refine ⟨?_, ⟨?_, ?_, f⟩, h.1, g⟩
    · show ((s == "minus" || s == "no") && a.ok) = true
      rw [o]
      rcases h.1 with rfl | rfl <;> decide +kernel
    · rcases h.1 with rfl | rfl <;> decide +kernel
    · rcases h.1 with rfl | rfl <;> decide +kernel
  | .two s a b, h => by
    obtain ⟨o, f, g⟩ := drn_ok h.2.1
    obtain ⟨o2, f2, g2⟩ := drn_ok h.2.2
    refine ⟨?_, ⟨f, f2⟩, h.1, g, g2⟩
    show (isOp s && (a.ok && b.ok)) = true
    rw [h.1, o, o2]
    rfl
  | .three s a b c, h => by
    obtain ⟨o, f, g⟩ := drn_ok h.2.1
    obtain ⟨o2, f2, g2⟩ := drn_ok h.2.2.1
    obtain ⟨o3, f3, g3⟩ := drn_ok h.2.2.2
    refine ⟨?_, ⟨f, f2, f3⟩, h.1, g, g2, g3⟩
    show ((s == "choose") && (a.ok && (b.ok && c.ok))) = true
    rw [h.1, o, o2, o3]
    decide +kernel
/-- what a drawn sum's text is -/
structure Shd (t : Sm) : Prop where
  ti : Ti t.shw
  wt : wt t.shw + (if t.rank < 9 then 4 else 0) ≤ 5 * t.isz + t.size
  w2 : w2 t.shw ≤ 3 * t.isz
  cnt : cnt t.shw = t.pcs
  rn : Rn 19 t.shw
  len : t.shw.length + 2 ≤ 32 * t.size
theorem par_wt {t : Sm} (h : Shd t) (l : Nat) (hl : l ≤ 9) : wt (par (decide (t.rank < l)) t.shw) ≤ 5 * t.isz + t.size := by
  have z := h.wt
  by_cases c : t.rank < l
  · rw [decide_eq_true c]
    rw [if_pos (by omega)] at z
    have e : wt (par true t.shw) = 4 + wt t.shw := by
      show wt ([40] ++ (t.shw ++ [41])) = _
      rw [wt_app, wt_app]
      rfl
    rw [e]
    omega
  · rw [decide_eq_false c]
    show wt t.shw ≤ _
    omega
theorem par_w2 (b : Bool) (l : L) : w2 (par b l) = w2 l := by
  cases b
  · rfl
  · show w2 ([40] ++ (l ++ [41])) = _
    rw [w2_app, w2_app]
    rw [show w2 [40] = 0 by decide +kernel, show w2 [41] = 0 by decide +kernel]
    omega
theorem par_cnt {t : Sm} (h : Shd t) (l : Nat) : cnt (par (decide (t.rank < l)) t.shw) = t.pcs + if t.rank < l then 1 else 0 := by
  by_cases c : t.rank < l
  · rw [decide_eq_true c, if_pos c]
    show cnt ([40] ++ (t.shw ++ [41])) = _
    rw [cnt_app, cnt_app, h.cnt]
    show 1 + (t.pcs + 0) = _
    omega
  · rw [decide_eq_false c, if_neg c]
    exact h.cnt
theorem par_rn {l : L} (h : Rn 19 l) (b : Bool) : Rn 19 (par b l) := by
  cases b
  · exact h
  · exact Rn_cat (a := []) (Rn_len (l := []) (by decide)) (Rn_cat h (Rn_len (l := []) (by decide)) (by decide)) (by decide)
theorem shd : ∀ {t : Sm}, t.drn → Shd t
  | .num n, h => by
    have f := leaf_num h.1 h.2
    exact ⟨f.ti, by rw [if_neg (show ¬ (Sm.num n).rank < 9 from by show ¬ 9 < 9; decide)]; exact f.wt, Nat.le_of_eq f.w2, f.cnt, f.rn, by have := f.len; show _ + 2 ≤ 32 * 1; omega⟩
  | .of w, h => by
    have f := leaf_of h
    exact ⟨f.ti, by rw [if_neg (show ¬ (Sm.of w).rank < 9 from by show ¬ 9 < 9; decide)]; exact f.wt, Nat.le_of_eq f.w2, f.cnt, f.rn, by have := f.len; show _ + 2 ≤ 32 * 1; omega⟩
  | .one s a, h => by
    have f := shd h.2
    have e : (Sm.one s a).shw = aheadC s ++ par (decide (a.rank < 8)) a.shw := rfl
    have hw := par_wt f 8 (by decide)
    have hl := (par_len (decide (a.rank < 8)) a.shw).2
    have fl := f.len
    have f2 := f.w2
    obtain ⟨x, ex, ax⟩ : ∃ x, aheadC s = [x] ∧ (x = 33 ∨ x = 45) := by
      unfold aheadC
      split
      · exact ⟨33, rfl, .inl rfl⟩
      · exact ⟨45, rfl, .inr rfl⟩
    have px : wt [x] = 1 ∧ w2 [x] = 2 ∧ cnt [x] = 0 ∧ x ∉ digC ∧ x ∈ hdC ∧ x ≠ 32 := by rcases ax with rfl | rfl <;> decide +kernel
    rw [ex] at e
    refine ⟨?_, ?_, ?_, ?_, ?_, ?_⟩
    · have tp := f.ti.par (decide (a.rank < 8))
      rw [e]
      refine ⟨⟨x, _, rfl, px.2.2.2.2.1⟩, ?_, nd_cons tp.nd px.2.2.2.2.2⟩
      obtain ⟨q, c, e2, m⟩ := tp.lt
      exact ⟨x :: q, c, by rw [e2]; rfl, m⟩
    · rw [e, wt_app, px.1, if_pos (by show 8 < 9; decide)]
      show _ ≤ 5 * (1 + a.isz) + (1 + a.size)
      omega
    · rw [e, w2_app, px.2.1, par_w2]
      show _ ≤ 3 * (1 + a.isz)
      omega
    · rw [e, cnt_app, px.2.2.1, par_cnt f, Nat.zero_add]
      rfl
    · rw [e]
      exact Rn_cat (a := []) (Rn_len (by decide)) (par_rn f.rn _) px.2.2.2.1
    · rw [e, List.length_append]
      show 1 + _ + 2 ≤ 32 * (1 + a.size)
      omega
  | .two s a b, h => by
    have f := shd h.2.1
    have g := shd h.2.2
    obtain ⟨c, mc⟩ := op_tpk h.1
    have ec : cs s = c := tpk_cs _ mc
    have pc : wt c ≤ 2 ∧ w2 c ≤ 3 ∧ cnt c = 0 ∧ 32 ∉ c ∧ c ≠ [] ∧ c.length ≤ 2 ∧ ∀ x ∈ c, x ∉ digC := (by decide +kernel : ∀ p ∈ tpk, wt p.2 ≤ 2 ∧ w2 p.2 ≤ 3 ∧ cnt p.2 = 0 ∧ 32 ∉ p.2 ∧ p.2 ≠ [] ∧ p.2.length ≤ 2 ∧ ∀ x ∈ p.2, x ∉ digC) _ mc
    have e : (Sm.two s a b).shw = par (decide (a.rank < rk s)) a.shw ++ 32 :: (c ++ 32 :: par (decide (b.rank < rk s + 1)) b.shw) := by
      rw [← ec]
      rfl
    have hk := (tpk_op _ mc).2.2
    have hk : rk s ≤ 7 := hk
    have w1 := par_wt f (rk s) (by omega)
    have w3 := par_wt g (rk s + 1) (by omega)
    have l1 := (par_len (decide (a.rank < rk s)) a.shw).2
    have l2 := (par_len (decide (b.rank < rk s + 1)) b.shw).2
    have fl := f.len
    have gl := g.len
    have f2 := f.w2
    have g2 := g.w2
    refine ⟨?_, ?_, ?_, ?_, ?_, ?_⟩
    · rw [e]
      exact (f.ti.par _).cat (g.ti.par _) pc.2.2.2.1 pc.2.2.2.2.1
    · rw [e, wt_app, wt_cons, wt_app, wt_cons, if_pos (by show rk s < 9; omega), show wc 32 = 0 by decide]
      have := pc.1
      show _ ≤ 5 * (1 + a.isz + b.isz) + (1 + a.size + b.size)
      omega
    · rw [e, w2_app, show w2 (32 :: (c ++ 32 :: par (decide (b.rank < rk s + 1)) b.shw)) = w2 [32] + (w2 c + (w2 [32] + w2 (par (decide (b.rank < rk s + 1)) b.shw))) by
        rw [← w2_app, ← w2_app, ← w2_app]
        rfl, par_w2, par_w2, show w2 [32] = 0 by decide]
      have := pc.2.1
      show _ ≤ 3 * (1 + a.isz + b.isz)
      omega
    · rw [e, cnt_app, show cnt (32 :: (c ++ 32 :: par (decide (b.rank < rk s + 1)) b.shw)) = cnt [32] + (cnt c + (cnt [32] + cnt (par (decide (b.rank < rk s + 1)) b.shw))) by
        rw [← cnt_app, ← cnt_app, ← cnt_app]
        rfl, par_cnt f, par_cnt g, pc.2.2.1, show cnt [32] = 0 by decide]
      show _ = (a.pcs + if a.rank < rk s then 1 else 0) + (b.pcs + if b.rank < rk s + 1 then 1 else 0)
      omega
    · rw [e]
      refine Rn_cat (par_rn f.rn _) (Rn_cat ?_ (par_rn g.rn _) (by decide)) (by decide)
      exact Rn_len (Nat.le_trans pc.2.2.2.2.2.1 (by decide))
    · rw [e]
      have := pc.2.2.2.2.2.1
      simp only [List.length_append, List.length_cons]
      show _ ≤ 32 * (1 + a.size + b.size)
      omega
  | .three s a b c, h => by
    have f := shd h.2.1
    have g := shd h.2.2.1
    have k := shd h.2.2.2
    have e : (Sm.three s a b c).shw = par (decide (a.rank < 2)) a.shw ++ 32 :: ([63] ++ 32 :: (b.shw ++ 32 :: ([58] ++ 32 :: par (decide (c.rank < 1)) c.shw))) := rfl
    have w1 := par_wt f 2 (by decide)
    have w3 := par_wt k 1 (by decide)
    have wg := g.wt
    have l1 := (par_len (decide (a.rank < 2)) a.shw).2
    have l2 := (par_len (decide (c.rank < 1)) c.shw).2
    have fl := f.len
    have gl := g.len
    have kl := k.len
    have f2 := f.w2
    have g2 := g.w2
    have k2 := k.w2
    have tb := g.ti.cat (k.ti.par (decide (c.rank < 1))) (m := [58]) (by decide) (by decide)
    refine ⟨?_, ?_, ?_, ?_, ?_, ?_⟩
    · rw [e]
      exact (f.ti.par _).cat tb (m := [63]) (by decide) (by decide)
    · have ew : wt (Sm.three s a b c).shw = wt (par (decide (a.rank < 2)) a.shw) + (wt [32, 63, 32] + (wt b.shw + (wt [32, 58, 32] + wt (par (decide (c.rank < 1)) c.shw)))) := by
        rw [← wt_app, ← wt_app, ← wt_app, ← wt_app]
        rfl
      rw [ew, if_pos (by show 1 < 9; decide), show wt [32, 63, 32] = 1 by decide, show wt [32, 58, 32] = 1 by decide]
      show _ ≤ 5 * (1 + a.isz + b.isz + c.isz) + (1 + a.size + b.size + c.size)
      omega
    · have ew : w2 (Sm.three s a b c).shw = w2 (par (decide (a.rank < 2)) a.shw) + (w2 [32, 63, 32] + (w2 b.shw + (w2 [32, 58, 32] + w2 (par (decide (c.rank < 1)) c.shw)))) := by
        rw [← w2_app, ← w2_app, ← w2_app, ← w2_app]
        rfl
      rw [ew, par_w2, par_w2, show w2 [32, 63, 32] = 0 by decide, show w2 [32, 58, 32] = 2 by decide]
      show _ ≤ 3 * (1 + a.isz + b.isz + c.isz)
      omega
    · have ew : cnt (Sm.three s a b c).shw = cnt (par (decide (a.rank < 2)) a.shw) + (cnt [32, 63, 32] + (cnt b.shw + (cnt [32, 58, 32] + cnt (par (decide (c.rank < 1)) c.shw)))) := by
        rw [← cnt_app, ← cnt_app, ← cnt_app, ← cnt_app]
        rfl
      rw [ew, par_cnt f, par_cnt k, g.cnt, show cnt [32, 63, 32] = 0 by decide, show cnt [32, 58, 32] = 0 by decide]
      show _ = (a.pcs + if a.rank < 2 then 1 else 0) + b.pcs + (c.pcs + if c.rank < 1 then 1 else 0)
      omega
    · rw [e]
      exact Rn_cat (par_rn f.rn _) (Rn_cat (Rn_len (by decide)) (Rn_cat g.rn (Rn_cat (Rn_len (by decide)) (par_rn k.rn _) (by decide)) (by decide)) (by decide)) (by decide)
    · rw [e]
      simp only [List.length_append, List.length_cons, List.length_nil]
      show _ ≤ 32 * (1 + a.size + b.size + c.size)
      omega
end Qb
end PySem
namespace PySem
namespace Qb
open PySem.W PySem.Calls PyProof.Rows L2
/-- a def of the text called from one place that is known: its body need hold there alone -/
theorem run_at {P : Program} {w : World} {K : Frag} {mg : Str → Option Value} {base : Heap} {k : Nat} {x qual : Str} {st : Stmt} {f : Addr} {fd : FuncData} {N ps : List Str} {A : Around} {outer : List Env} {s : Shared} {H : Hp} {args : Args} {us : List Value} {vs : List V} {Q : VK}
    (F : Fun K x qual st f fd) (S : FnScope N ps (defScope st)) (hr : Room (k + 1) A) (e0 : Env0 P w K mg base A outer s H) (hb : BindsTo s fd args (ps.zip us)) (r : Vals vs us) (hl : vs.length = ps.length)
    (body : ∀ cdv, ∃ t, PSs (cxOf CX0 P w K mg base N qual (defScope st) f cdv A outer s H E0).nox (defBody st) t ∧ t { nx := fun _ H' => Q .non H', rt := Q } (L2.start N vs) H) :
    codeAny (model P w) A (.call (.ref f) args) (CR CX0 outer P w H s Q E0) s := by
  obtain ⟨oc, od, kV, doc, pm, an, cdv, ct, osl, rfl, lk, hcd⟩ := F.ex
  have here : K.In s.heap := e0.mod.kin.keeps fun b o z => (e0.bs b o z).1
  have room : s.heap.NoLimit := e0.mod.nolimit.keeps fun b o z => (e0.bs b o z).1
  refine codeAny_call_function hr.depth (here _ _ lk) rfl S.co S.gen rfl (codeRec_of here hcd) (hb _ _ _ _ ?_)
  refine wpAny_newFunctionEnv_cells S.kind (fun y hy => ?_) fun env he s1 hin => ?_
  · obtain ⟨n, v⟩ := y
    rcases S.par n (List.of_mem_zip hy).1 with z | z
    · exact .inl z
    · exact .inr ⟨z, cellsFrom_some _ _ _ (.inl z)⟩
  · subst he
    obtain ⟨t, ht, rd⟩ := body cdv
    have I : Inv (cxOf CX0 P w K mg base N qual (defScope st) f cdv A outer s H E0) [] (L2.start N vs) H s1 := inv_start S hr.hd e0 hl r hin
    refine ⟨room.keeps hin.toInCall.keep, codeAny_func (wpAny_mono (ht.nox.run [] s1 _ H _ I rd) (fun fl s2 hs => ?_) fun e s2 hs => hs)⟩
    have fin : ∀ {σ2 : L2.St} {H2 : Hp} {v : V} {u : Value}, Inv (cxOf CX0 P w K mg base N qual (defScope st) f cdv A outer s H E0) [] σ2 H2 s2 → RelV v u → Q v H2 → CE outer P w H s Q u s2 :=
      fun J rv q => ⟨_, _, J.os, J.bare, J.base, J.hok, rv, q⟩
    cases fl with
    | ret u =>
      obtain ⟨v, σ2, H2, J, rv, q⟩ := hs
      exact fin J rv q
    | next =>
      obtain ⟨σ2, H2, J, q⟩ := hs
      exact fin (v := .non) (u := .none) J rfl q
    | brk =>
      obtain ⟨_, _, _, z⟩ := hs
      exact (z : False).elim
    | cont =>
      obtain ⟨_, _, _, z⟩ := hs
      exact (z : False).elim
/-- the law is called over the script: what the body needs is laid out -/
theorem law_at {P : Program} {w : World} {K : Frag} {mg mb : Str → Option Value} {fa a : Addr} {s : Shared} {vs : List Value} {ns : List Int}
    (KX : K.In s.heap) (hns : s.heap.Ns mainGlobals mg) (hb : s.heap.Ns builtinsNs mb) (hbb : ∀ x : Str, x ≠ "__name__" → mb x = bootBuiltins x) (lim : s.heap.NoLimit) (hg : s.gens = #[])
    (ha : s.heap.get? a = some { cls := .type "list", data := .seq vs.toArray }) (hi : IntsAre vs ns) (hl : ns.length ≤ sizeLine)
    (run : ∀ (base : Heap) (H : Hp), K.In base → base.Ns mainGlobals mg → Env0 P w K mg base callerA [] s H → SqL K H a (ns.map V.int) →
      codeAny (model P w) callerA (.call (.ref fa) ⟨[.ref a], []⟩) (CR CX0 [] P w H s (fun v _ => v = .bl true) E0) s) :
    codeAny (model P w) callerA (.call (.ref fa) ⟨[.ref a], []⟩) (fun r s' => r = .ok (.ret (.bool true)) ∧ OldK s.heap s'.heap ∧ s'.os = s.os ∧ AllBare s'.gens) s := by
  have rel := vals_ints hi
  have many := hi.length
  -- the script is tracked, as a thing that is known, where it is none of the module's own
  obtain ⟨H, hH⟩ : ∃ H : Hp, ∀ b, H b = if b = a ∧ K.lookup a = none then some (.frz { cls := .type "list", data := .seq vs.toArray } (.lst (ns.map V.int))) else none := ⟨_, fun _ => rfl⟩
  have only : ∀ b u, H b = some u → b = a ∧ K.lookup a = none ∧ u = .frz { cls := .type "list", data := .seq vs.toArray } (.lst (ns.map V.int)) := fun b u z => by
    rw [hH] at z
    by_cases c : b = a ∧ K.lookup a = none
    · rw [if_pos c] at z
      exact ⟨c.1, c.2, (Option.some.inj z).symm⟩
    · rw [if_neg c] at z
      cases z
  have sq : SqL K H a (ns.map V.int) := by
    cases hk : K.lookup a with
    | none => exact .inl (.inr ⟨_, by rw [hH]; exact if_pos ⟨rfl, hk⟩⟩)
    | some o =>
      have e := KX a o hk
      rw [ha] at e
      cases e
      exact .inr ⟨_, vs.toArray, _, hk, rfl, rfl, rfl, by rw [List.size_toArray, many]; exact hl, by simpa using rel⟩
  have ok : HOk P w H s.heap := fun b u z => by
    obtain ⟨rfl, _, rfl⟩ := only b u z
    exact ⟨ha, by rw [List.length_map]; exact hl, vs, _, rel, ha⟩
  have kept : ∀ b o, s.heap.get? b = some o → H b = none → (hidT s.heap H).get? b = some o := fun b o z n => hidT_get z n
  have baseK : K.In (hidT s.heap H) := fun b o z => kept b o (KX b o z) (by
    cases q : H b with
    | none => rfl
    | some u =>
      obtain ⟨rfl, n, _⟩ := only b u q
      rw [n] at z
      cases z)
  have baseN : ∀ (b : Addr) (m : Str → Option Value), s.heap.Ns b m → (hidT s.heap H).Ns b m := fun b m ⟨o, es, ep, z, d, r⟩ => ⟨o, es, ep, kept b o z (by
    cases q : H b with
    | none => rfl
    | some u =>
      obtain ⟨rfl, _, _⟩ := only b u q
      rw [ha] at z
      cases z
      cases d), d, r⟩
  have env : Env0 P w K mg (hidT s.heap H) callerA [] s H := {
    frames := rfl
    mod := ⟨baseK, baseN _ _ hns, ⟨mb, baseN _ _ hb, hbb⟩, let ⟨m, z1, z2⟩ := lim; ⟨m, baseN _ _ z1, z2⟩⟩
    bs := fun b o z => of_hidT z
    bsz := Nat.le_of_eq (hidT_size _ _)
    funs := trivial
    frf := fun b z => nomatch z
    hok := ok
    bare := .of_eq hg }
  refine codeAny_mono (run _ H baseK (baseN _ _ hns) env sq) fun r s' z => ?_
  cases r with
  | error e => exact z.elim
  | ok fl =>
    cases fl with
    | ret u =>
      obtain ⟨v, H', h1, h2, h3, h4, h5, h6⟩ := z
      obtain rfl : v = .bl true := h6
      obtain rfl : u = Value.bool true := h5
      refine ⟨rfl, OldK.of_keep fun b o y => ?_, h1, h2⟩
      cases q : H b with
      | none => exact h3.keep b o y q (fun z => nomatch z) (fun z => nomatch z)
      | some t =>
        obtain ⟨rfl, _, rfl⟩ := only b t q
        have q2 := h3.frzs _ _ _ q
        obtain ⟨g1, _⟩ := h4 _ _ q2
        rw [ha] at y
        cases y
        exact g1
    | next => exact z.elim
    | brk => exact z.elim
    | cont => exact z.elim
/-! # repr of what can be shown -/
def Wd (K : Frag) (H : Hp) (v : V) (d : PyData) : Prop := Dp K H v d ∧ SeqAt.shaped d = true ∧ d.showable = true ∧ d.hasDict = false ∧ d.shown.length ≤ sizeLine
theorem call_reprD {X : Cx} (hg : X.A.guards = some []) (hu : X.A.units + 100 < cLine) : CallR X (.builtin "repr") (fun xs H Q => ∃ v d, xs = [v] ∧ Wd X.K H v d ∧ Q (.str d.shown) H) := by
  intro pins s σ H xs us Q I r h
  obtain ⟨v, d, rfl, hd, q⟩ := h
  obtain ⟨u, rfl, ru⟩ := vals1 r
  have ends : ∀ (h' : Heap) (t : Tok) (tk : Nat), (∀ b o, s.heap.get? b = some o → h'.get? b = some o) → EP X pins σ Q (.str d.shown t) { s with heap := h', toks := tk } :=
    fun h' t tk k => ⟨.str d.shown, H, I.kept (t' := tk) k, ⟨t, rfl⟩, q⟩
  have at_ref : ∀ (a : Addr) (as : List Addr), u = .ref a → Reads s.heap u d as → d.showable = true → (d.hasDict = true → sysModules ∉ as) → d.depth ≤ 64 → d.shown.length ≤ sizeLine →
      wpAny (model X.prog X.w) X.A (call (.builtin "repr") [u]) (EP X pins σ Q) X.xe s := by
    intro a as e r1 h3 h4 h6 h5
    subst e
    exact repr_of_reads' r1 h3 h4 hg (by omega) (fun _ _ z => z) ends h5
  obtain ⟨h1, h2, h3, h4, h5⟩ := hd
  obtain ⟨as, r1⟩ := Dp.reads I d v u h1 ru
  have h6 := SeqAt.depth_of_shaped h2
  have far : d.hasDict = true → sysModules ∉ as := fun z => by
    rw [h4] at z
    cases z
  cases h1 with
  | non =>
    obtain rfl : u = Value.none := ru
    exact P.repr_of_none (ends s.heap _ _ fun _ _ z => z)
  | bl b =>
    obtain rfl : u = Value.bool b := ru
    exact P.repr_of_bool (ends s.heap _ _ fun _ _ z => z)
  | int i =>
    obtain ⟨t, rfl⟩ := ru
    exact P.repr_of_int (by simpa [PyData.showable] using h3) (ends s.heap _ _ fun _ _ z => z)
  | str x =>
    obtain ⟨t, rfl⟩ := ru
    exact P.repr_of_str (ends s.heap _ _ fun _ _ z => z) h5
  | lst ha hxs => exact at_ref _ as ru r1 h3 far h6 h5
  | tup ha hxs => exact at_ref _ as ru r1 h3 far h6 h5
theorem ht_isz : ∀ (t : Sm), t.ht ≤ t.isz
  | .num _ => Nat.zero_le _
  | .of _ => Nat.zero_le _
  | .one _ a => by
    have := ht_isz a
    show 1 + a.ht ≤ 1 + a.isz
    omega
  | .two _ a b => by
    have := ht_isz a
    have := ht_isz b
    show 1 + max a.ht b.ht ≤ 1 + a.isz + b.isz
    omega
  | .three _ a b c => by
    have := ht_isz a
    have := ht_isz b
    have := ht_isz c
    show 1 + max a.ht (max b.ht c.ht) ≤ 1 + a.isz + b.isz + c.isz
    omega
theorem str_ok {x : Str} (h : ∀ c ∈ cs x, c ∈ safeC) : PyData.strOk x = true := by
  unfold PyData.strOk
  rw [Array.all_eq_true_iff_forall_mem]
  intro c m
  exact decide_eq_true (safe_char c (h c (by simpa [cs] using m))).2.2
theorem sh_int (n : Int) : Sh 0 (.int n) := ⟨PyData.canLay0.eq_3 n, Nat.le_of_eq rfl⟩
theorem sh_tree : ∀ {t : Sm}, t.good → Sh (t.ht + 1) t.d
  | .num n, h => sh_tup fun d m => by
    rcases List.mem_cons.mp m with rfl | m
    · exact sh_str (str_ok (kd_safe (t := .num n) h))
    · rw [List.mem_singleton.mp m]
      exact sh_int n
  | .of w, h => sh_tup fun d m => by
    rcases List.mem_cons.mp m with rfl | m
    · exact sh_str (str_ok (kd_safe (t := .of w) h))
    · rw [List.mem_singleton.mp m]
      exact sh_str (str_ok fun c mc => safe_in (h c mc))
  | .one s a, h => by
    have ia := sh_tree h.2
    refine sh_tup (ds := [.str s, a.d]) fun d m => ?_
    have e : (Sm.one s a).ht = 1 + a.ht := rfl
    rcases List.mem_cons.mp m with rfl | m
    · exact sh_mono (sh_str (str_ok (kd_safe (t := .one s a) h))) (Nat.zero_le _)
    · rw [List.mem_singleton.mp m]
      exact sh_mono ia (by omega)
  | .two s a b, h => by
    have ia := sh_tree h.2.1
    have ib := sh_tree h.2.2
    have e : (Sm.two s a b).ht = 1 + max a.ht b.ht := rfl
    refine sh_tup (ds := [.str s, a.d, b.d]) fun d m => ?_
    rcases List.mem_cons.mp m with rfl | m
    · exact sh_mono (sh_str (str_ok (kd_safe (t := .two s a b) h))) (Nat.zero_le _)
    rcases List.mem_cons.mp m with rfl | m
    · exact sh_mono ia (by omega)
    · rw [List.mem_singleton.mp m]
      exact sh_mono ib (by omega)
  | .three s a b c, h => by
    have ia := sh_tree h.2.1
    have ib := sh_tree h.2.2.1
    have ic := sh_tree h.2.2.2
    have e : (Sm.three s a b c).ht = 1 + max a.ht (max b.ht c.ht) := rfl
    refine sh_tup (ds := [.str s, a.d, b.d, c.d]) fun d m => ?_
    rcases List.mem_cons.mp m with rfl | m
    · exact sh_mono (sh_str (str_ok (kd_safe (t := .three s a b c) h))) (Nat.zero_le _)
    rcases List.mem_cons.mp m with rfl | m
    · exact sh_mono ia (by omega)
    rcases List.mem_cons.mp m with rfl | m
    · exact sh_mono ib (by omega)
    · rw [List.mem_singleton.mp m]
      exact sh_mono ic (by omega)
theorem showable_tree : ∀ {t : Sm}, t.good → t.d.showable = true ∧ t.d.hasDict = false
  | .num n, h => by
    have e : (Sm.num n).d = .tuple [.str "number", .int n] := rfl
    rw [e, PyData.showable.eq_6, PyData.showableAll.eq_2, PyData.showableAll.eq_2, PyData.showableAll.eq_1, PyData.showable.eq_3, PyData.showable.eq_4, decide_eq_true (int_log h.1 h.2)]
    exact ⟨rfl, rfl⟩
  | .of w, h => ⟨rfl, rfl⟩
  | .one s a, h => by
    have i := showable_tree h.2
    have e : (Sm.one s a).d = .tuple [.str s, a.d] := rfl
    rw [e, PyData.showable.eq_6, PyData.showableAll.eq_2, PyData.showableAll.eq_2, PyData.showableAll.eq_1, PyData.showable.eq_3, i.1]
    refine ⟨rfl, ?_⟩
    show ((PyData.str s).hasDict || (a.d.hasDict || false)) = false
    rw [i.2]
    rfl
  | .two s a b, h => by
    have i := showable_tree h.2.1
    have j := showable_tree h.2.2
    have e : (Sm.two s a b).d = .tuple [.str s, a.d, b.d] := rfl
    rw [e, PyData.showable.eq_6, PyData.showableAll.eq_2, PyData.showableAll.eq_2, PyData.showableAll.eq_2, PyData.showableAll.eq_1, PyData.showable.eq_3, i.1, j.1]
    refine ⟨rfl, ?_⟩
    show ((PyData.str s).hasDict || (a.d.hasDict || (b.d.hasDict || false))) = false
    rw [i.2, j.2]
    rfl
  | .three s a b c, h => by
    have i := showable_tree h.2.1
    have j := showable_tree h.2.2.1
    have k := showable_tree h.2.2.2
    have e : (Sm.three s a b c).d = .tuple [.str s, a.d, b.d, c.d] := rfl
    rw [e, PyData.showable.eq_6, PyData.showableAll.eq_2, PyData.showableAll.eq_2, PyData.showableAll.eq_2, PyData.showableAll.eq_2, PyData.showableAll.eq_1, PyData.showable.eq_3, i.1, j.1, k.1]
    refine ⟨rfl, ?_⟩
    show ((PyData.str s).hasDict || (a.d.hasDict || (b.d.hasDict || (c.d.hasDict || false)))) = false
    rw [i.2, j.2, k.2]
    rfl
theorem wd_tree {K : Frag} {H : Hp} {v : V} {t : Sm} (h : t.good) (hd : Dp K H v t.d) (hi : t.isz ≤ 60) (hl : t.rl ≤ 10000000) : Wd K H v t.d := by
  refine ⟨hd, sh_ok (sh_tree h) (by have := ht_isz t; omega), (showable_tree h).1, (showable_tree h).2, ?_⟩
  rw [len_cs, shown_rp h, sizeLine_eq]
  have := rp_len h
  omega
theorem wd_none {K : Frag} {H : Hp} : Wd K H .non .none := ⟨.non, rfl, rfl, rfl, by decide +kernel⟩
/-! # a def that is called where nothing is being shown -/
structure FnG (P : Program) (w : World) (K : Frag) (mg : Str → Option Value) (base : Heap) (k : Nat) (f : Addr) (fd : FuncData) (ps : List Str) (sp : Sp) : Prop where
  len : ∀ (vs : List V) (H : Hp) (Q : VK) (E : XK), sp vs H Q E → vs.length = ps.length
  run : ∀ (A : Around) (outer : List Env) (s : Shared) (H : Hp) (args : Args) (us : List Value) (vs : List V) (Q : VK), A.guards = some [] → Room k A → Env0 P w K mg base A outer s H → BindsTo s fd args (ps.zip us) → Vals vs us → sp vs H Q E0 →
    codeAny (model P w) A (.call (.ref f) args) (CR CX0 outer P w H s Q E0) s
section
variable {X : Cx} {k : Nat} {f : Addr} {fd : FuncData} {ps : List Str} {sp : Sp}
theorem run_fnG {pins : List (Addr × Obj)} {σ : L2.St} {H : Hp} {s : Shared} {Q : VK} {us : List Value} {vs : List V} (F : FnG X.prog X.w X.K X.mg X.base k f fd ps sp) (hg : X.A.guards = some []) (hr : Room k X.A) (hb : L2.Binds X.K fd ps []) (I : L2.Inv X pins σ H s) (r : Vals vs us) (h : sp vs H Q E0) :
    wpAny (model X.prog X.w) X.A (call (.ref f) us) (EP X pins σ Q) X.xe s := by
  have hl : us.length = ps.length := by rw [← r.length]; exact F.len _ _ _ _ h
  have hb2 := hb s us I.kIn (by rw [List.append_nil]; exact hl)
  rw [List.append_nil] at hb2
  refine wpAny_call (codeAny_mono (F.run X.A X.stack s H { pos := us } us vs Q hg hr I.env0 hb2 r h) fun r s' hq => ?_)
  cases r with
  | error e => exact hq.elim
  | ok fl =>
    cases fl with
    | ret u => exact I.after hq
    | next => exact hq.elim
    | brk => exact hq.elim
    | cont => exact hq.elim
theorem pe_callG {x : Str} {p pos : Pos} {e : Expr} {es : List Expr} {t : TA} (F : FnG X.prog X.w X.K X.mg X.base k f fd ps sp) (hgd : X.A.guards = some []) (hr : Room k X.A) (hg : Gl X x) (hm : X.mg x = some (.ref f)) (hk : PySem.W.keepIn X.K (.ref f) = true) (hb : L2.Binds X.K fd ps []) (ha : PA X (e :: es) t)
    (hdb : (x == ("__debug__" : Str)) = false := by decide) (he : starEach (e :: es) X.env = (false, eval e X.env) :: starEach es X.env := by rfl) (hpl : ((backTo pos (starEach es X.env)).any (·.1)) = false := by rfl) :
    PE X (.Call (.Name x p) (e :: es) [] pos) (fun σ H Q => t σ H fun vs H1 => sp vs H1 Q E0) := by
  refine ⟨fun pins s σ H Q I h => wpAny_Call_Name_kw (ld_glob I hg hm (callWith_K I.ok.mod.kin hk (thn (ha.run pos pins s σ H (fun vs H1 => sp vs H1 Q E0) I h) fun us s1 z => ?_) he hpl) hdb)⟩
  obtain ⟨vs, H1, I1, r, q⟩ := z
  exact ⟨I1.kIn, run_fnG F hgd hr hb I1 r q⟩
end
/-! # a def that may raise, its one argument told by its name -/
section
variable {X : Cx} {CX : CXT} {k : Nat} {f : Addr} {fd : FuncData} {ps ks : List Str} {sp : Sp} {x : Str} {p pos : Pos} {E : L2.St → XK} {kws : List Keyword} {tk : TA} {g : List Value → List Value → List Value} {gV : List V → List V → List V}
theorem pe_callKwS (F : FnOk X.prog X.w X.K X.mg X.base CX k f fd ps sp) (hr : Room k X.A) (hg : Gl X x) (hm : X.mg x = some (.ref f)) (hk : PySem.W.keepIn X.K (.ref f) = true) (hb : KBinds X.K fd ps ks g gV) (hx : ∀ σ, PassesAt CX X σ (E σ))
    (hkw : PK X kws tk) (hall : (backToKw pos (keywordEach kws X.env)).all (·.1.isSome) = true := by rfl) (hks : (backToKw pos (keywordEach kws X.env)).filterMap (·.1) = ks := by rfl)
    (hdb : (x == ("__debug__" : Str)) = false := by decide)
    (hpl : ((backTo pos (starEach [] X.env)).any (·.1) || (backToKw pos (keywordEach kws X.env)).any (·.1.isNone)) = false := by rfl) :
    PE X (.Call (.Name x p) [] kws pos) (fun σ H Q => tk σ H fun zs H2 => sp (gV [] zs) H2 Q (E σ)) := by
  refine ⟨fun pins s σ H Q I h => ?_⟩
  refine wpAny_Call_Name_kw (ld_glob I hg hm ?_ hdb)
  refine PySem.W.callWith_KW0 (h₀ := X.base) I.ok.mod.kin hk hall (thn (hkw.run pos pins s σ H _ I h) fun ws s2 ⟨zs, H2, I2, rz, q2⟩ => ⟨I2.kIn, ?_⟩) hpl
  rw [hks]
  have r2 := hb.rel .nil rz
  have hl : (g [] ws).length = ps.length := by rw [← r2.length]; exact F.len _ _ _ _ q2
  refine wpAny_call (codeAny_mono (F.run X.A X.stack s2 H2 { pos := [], kw := ks.zip ws } (g [] ws) (gV [] zs) Q (E σ) hr I2.env0 (hb.to s2 [] ws I2.kIn hl) r2 q2) fun r s' hq => ?_)
  cases r with
  | error e => exact hx σ pins H2 s2 e s' I2 hq
  | ok fl =>
    cases fl with
    | ret u => exact I2.after hq
    | next => exact hq.elim
    | brk => exact hq.elim
    | cont => exact hq.elim
end
end Qb
end PySem
namespace PySem
namespace Qb
open PySem.W PySem.Calls PyProof.Rows L2
/-! # sums written loosely are read, too -/
def Bl (g : L) : Prop := ∀ c ∈ g, c ∈ wsC
theorem spc_bl {g : L} (h : Bl g) (r : L) : spc (g ++ r) = spc r := by
  induction g with
  | nil => rfl
  | cons c g ih =>
    show (c :: (g ++ r)).dropWhile _ = _
    rw [List.dropWhile_cons_of_pos (by simpa using h c (.head _))]
    exact ih fun d m => h d (.tail _ m)
/-- a text of the tree t, written loosely: its rank, how deep it is -/
inductive Wr : Sm → Nat → Nat → L → Prop
  | num (n : Nat) : Wr (.num n) 9 0 (nmC n)
  | nam {w : Str} (h : isNm (cs w) = true) : Wr (.of w) 9 0 (cs w)
  | plc {w : Str} (h : okPl (cs w)) : Wr (.of w) 9 0 (36 :: cs w)
  | one {s : Str} {a : Sm} {e k : Nat} {g y : L} (hs : s = "minus" ∨ s = "no") (hg : Bl g) (ha : Wr a e k y) (he : 8 ≤ e) : Wr (.one s a) 8 (k + 1) (aheadC s ++ (g ++ y))
  | two {s : Str} {a b : Sm} {e f k m : Nat} {g h y z : L} (hs : isOp s = true) (hg : Bl g) (hh : Bl h) (ha : Wr a e k y) (he : rk s ≤ e) (hb : Wr b f m z) (hf : rk s + 1 ≤ f) : Wr (.two s a b) (rk s) (max k m + 1) (y ++ (g ++ (cs s ++ (h ++ z))))
  | three {a b c : Sm} {e f d k m j : Nat} {g1 g2 g3 g4 y z u : L} (h1 : Bl g1) (h2 : Bl g2) (h3 : Bl g3) (h4 : Bl g4) (ha : Wr a e k y) (he : 2 ≤ e) (hb : Wr b f m z) (hc : Wr c d j u) :
      Wr (.three "choose" a b c) 1 (max k (max m j) + 1) (y ++ (g1 ++ 63 :: (g2 ++ (z ++ (g3 ++ 58 :: (g4 ++ u))))))
  | par {a : Sm} {e k : Nat} {y : L} (ha : Wr a e k y) : Wr a 9 (k + 1) (40 :: (y ++ [41]))
def fC : L := namC ++ [36, 40, 45, 33]
theorem wr_first {t : Sm} {e k : Nat} {x : L} (h : Wr t e k x) : ∃ c r, x = c :: r ∧ c ∈ fC := by
  induction h with
  | num n =>
    obtain ⟨a, b, _⟩ := nmC_ok n
    cases q : nmC n with
    | nil => exact (a q).elim
    | cons c r => exact ⟨c, r, rfl, List.mem_append_left _ ((by decide +kernel : ∀ c ∈ digC, c ∈ namC) c (b c (by rw [q]; exact .head _)))⟩
  | nam h =>
    obtain ⟨c, r, q, m, _⟩ := nm_cons h
    exact ⟨c, r, q, List.mem_append_left _ (sta_nam c m)⟩
  | @plc w h => exact ⟨36, cs w, rfl, by decide +kernel⟩
  | one hs hg ha he ih =>
    rename_i s a e k g y
    show ∃ c r, aheadC s ++ (g ++ y) = c :: r ∧ c ∈ fC
    unfold aheadC
    split
    · exact ⟨33, _, rfl, by decide +kernel⟩
    · exact ⟨45, _, rfl, by decide +kernel⟩
  | two hs hg hh ha he hb hf ih1 ih2 =>
    obtain ⟨c, r, q, m⟩ := ih1
    exact ⟨c, _, by rw [q]; rfl, m⟩
  | three h1 h2 h3 h4 ha he hb hc ih1 ih2 ih3 =>
    obtain ⟨c, r, q, m⟩ := ih1
    exact ⟨c, _, by rw [q]; rfl, m⟩
  | par ha ih => exact ⟨40, _, rfl, by decide +kernel⟩
theorem fC_ws : ∀ c ∈ fC, c ∉ wsC ∧ c ≠ 61 := by decide +kernel
theorem wr_fst {t : Sm} {e k : Nat} {x : L} (h : Wr t e k x) : First x := by
  obtain ⟨c, r, q, m⟩ := wr_first h
  exact ⟨c, r, q, (fC_ws c m).1⟩
theorem no_eq {t : Sm} {e k : Nat} {g x : L} (hg : Bl g) (h : Wr t e k x) (r : L) : (g ++ (x ++ r)).head? ≠ some 61 := by
  cases g with
  | nil =>
    obtain ⟨c, q, rfl, m⟩ := wr_first h
    exact fun z => (fC_ws c m).2 (Option.some.inj z)
  | cons c g =>
    intro z
    have : c = 61 := Option.some.inj z
    subst this
    exact (by decide : (61 : Nat) ∉ wsC) (hg 61 (.head _))
theorem tidy_bl {g r : L} (hg : Bl g) (h : Tidy r) : Tidy (g ++ r) := fun c l e => by
  cases g with
  | nil => exact h c l e
  | cons d g =>
    obtain rfl : d = c := (List.cons.inj e).1
    exact (by decide +kernel : ∀ c ∈ wsC, c ∉ namC) d (hg d (.head _))
def opC : L := [38, 124, 60, 62, 61, 33, 42, 47, 94, 43, 45]
theorem op_first : ∀ p ∈ tpk, ∃ c ∈ opC, p.2.head? = some c := by decide +kernel
theorem op_cons {s : Str} {c : L} (h : (s, c) ∈ tpk) : ∃ d q, c = d :: q ∧ d ∈ opC := by
  obtain ⟨d, hd, e⟩ := op_first _ h
  have e : c.head? = some d := e
  cases c with
  | nil => cases e
  | cons x q =>
    obtain rfl := Option.some.inj e
    exact ⟨x, q, rfl, hd⟩
theorem tidy_op {s : Str} {c : L} (h : (s, c) ∈ tpk) (r : L) : Tidy (c ++ r) := fun d l e => by
  obtain ⟨x, q, rfl, m⟩ := op_cons h
  obtain rfl : x = d := (List.cons.inj e).1
  exact (by decide +kernel : ∀ c ∈ opC, c ∉ namC) x m
theorem spc_op {s : Str} {c : L} (h : (s, c) ∈ tpk) (r : L) : spc (c ++ r) = c ++ r := by
  obtain ⟨x, q, rfl, m⟩ := op_cons h
  exact spc_first ⟨x, q ++ r, rfl, (by decide : ∀ c ∈ opC, c ∉ wsC) x m⟩
theorem tp_op' {s : Str} {c : L} (h : (s, c) ∈ tpk) {r : L} (hr : r.head? ≠ some 61) : tpSign (c ++ r) = some (s, c) := by
  have key : ∀ d q, r = d :: q → d ≠ 61 := fun d q e z => hr (by rw [e, z]; rfl)
  have k2 : ∀ x : Nat, [x, 61].isPrefixOf (x :: r) = false := fun x => by
    cases r with
    | nil => simp [List.isPrefixOf]
    | cons d q =>
      have n := key d q rfl
      have n2 : (61 == d) = false := beq_eq_false_iff_ne.mpr (Ne.symm n)
      simp [List.isPrefixOf, n2]
  unfold tpk at h
  simp only [List.mem_cons, List.not_mem_nil, or_false, Prod.mk.injEq] at h
  rcases h with ⟨rfl, rfl⟩ | ⟨rfl, rfl⟩ | ⟨rfl, rfl⟩ | ⟨rfl, rfl⟩ | ⟨rfl, rfl⟩ | ⟨rfl, rfl⟩ | ⟨rfl, rfl⟩ | ⟨rfl, rfl⟩ | ⟨rfl, rfl⟩ | ⟨rfl, rfl⟩ | ⟨rfl, rfl⟩ | ⟨rfl, rfl⟩ | ⟨rfl, rfl⟩
  case inr.inr.inr.inr.inr.inr.inl =>
    show tpSign (60 :: r) = _
    have := k2 60
    unfold tpSign tpk
    simp [List.find?, this]
    simp [List.isPrefixOf]
  case inr.inr.inr.inr.inr.inr.inr.inl =>
    show tpSign (62 :: r) = _
    have := k2 62
    unfold tpSign tpk
    simp [List.find?, this]
    simp [List.isPrefixOf]
  all_goals rfl
def LoopO (n l : Nat) (t : Sm) (r : L) : Option (Sm × L) → Prop
  | some o => LoopTo n l t r o
  | none => ∀ m, loopW (rds n).two m l t r = none
theorem two_ofO {n l : Nat} {t : Sm} {r r1 : L} {o : Option (Sm × L)} (h : (rds n).ahead r = some (t, r1)) (k : LoopO n l t r1 o) : (rds (n + 1)).two l r = o := by
  cases o with
  | some o => exact two_of h k
  | none =>
    show twoF (rds n).two (rds n).ahead l r = none
    unfold twoF
    rw [h]
    exact k _
/-- a sign of two parts lies ahead, and nothing that can be read behind it -/
def BadT (l : Nat) (r : L) : Prop := ∃ p, tpSign r = some p ∧ l ≤ rk p.1 ∧ ∀ n m, (rds n).two m (r.drop p.2.length) = none
/-- a question mark lies ahead, and no sum and colon behind it -/
def BadQ (r : L) : Prop := tpSign r = none ∧ ∃ r2, r = 63 :: r2 ∧ ∀ n a r3, (rds n).sum r2 ≠ some (a, 58 :: r3)
theorem BadT.loop {l : Nat} {r : L} (h : BadT l r) (n : Nat) (t : Sm) : ∀ m, loopW (rds n).two m l t r = none
  | 0 => rfl
  | m + 1 => by
    obtain ⟨p, e, hl, z⟩ := h
    unfold loopW
    rw [e]
    dsimp only
    rw [if_pos hl, z]
structure Bk (t : Sm) (e k : Nat) (x : L) : Prop where
  A : ∀ n l rest o, 6 * k + 6 ≤ n → l ≤ e → 2 ≤ e → Tidy rest → (∀ p, tpSign (spc rest) = some p → rk p.1 ≤ e) → LoopO n l t (spc rest) o → (rds (n + 1)).two l (x ++ rest) = o
  B : ∀ n rest, 6 * k + 6 ≤ n → Tidy rest → tpSign (spc rest) = none → (spc rest).head? ≠ some 63 → (rds (n + 2)).sum (x ++ rest) = some (t, spc rest)
  C : ∀ n rest, 6 * k + 6 ≤ n → 8 ≤ e → Tidy rest → (rds n).ahead (x ++ rest) = some (t, spc rest)
  F : ∀ n l rest, 6 * k + 6 ≤ n → l ≤ e → 2 ≤ e → Tidy rest → BadT l (spc rest) → (rds (n + 1)).two l (x ++ rest) = none
  G : ∀ n rest, 6 * k + 6 ≤ n → Tidy rest → BadT 2 (spc rest) ∨ BadQ (spc rest) → (rds (n + 2)).sum (x ++ rest) = none
theorem sum_none {n : Nat} {r : L} (h : (rds n).two 2 r = none) : (rds (n + 1)).sum r = none := by
  show sumF _ _ r = _
  unfold sumF
  rw [h]
theorem sumF_q {sum : Rd} {two : Nat → Rd} {r r2 : L} {t : Sm} (h : two 2 r = some (t, 63 :: r2)) : sumF sum two r = (match sum r2 with
    | some (a, 58 :: r3) => (match sum r3 with
      | none => none
      | some (b, r4) => some (Sm.three "choose" t a b, r4))
    | _ => none) := by
  unfold sumF
  rw [h]
  rfl
theorem sum_badq {n : Nat} {r r2 : L} {t : Sm} (h : (rds n).two 2 r = some (t, 63 :: r2)) (z : ∀ n a r3, (rds n).sum r2 ≠ some (a, 58 :: r3)) : (rds (n + 1)).sum r = none := by
  show sumF _ _ r = _
  rw [sumF_q h]
  split
  · rename_i a r3 e
    exact (z _ _ _ e).elim
  · rfl
theorem rk7 {r : L} {p : Str × L} (h : tpSign r = some p) : 2 ≤ rk p.1 ∧ rk p.1 ≤ 7 := (tpk_op p (tpSign_mem h).1).2
/-- what is asked of a text of a rank that is 2 or more -/
theorem bk_two {t : Sm} {e k : Nat} {x : L} (h2 : 2 ≤ e) (A : ∀ n l rest o, 6 * k + 6 ≤ n → l ≤ e → 2 ≤ e → Tidy rest → (∀ p, tpSign (spc rest) = some p → rk p.1 ≤ e) → LoopO n l t (spc rest) o → (rds (n + 1)).two l (x ++ rest) = o)
    (C : ∀ n rest, 6 * k + 6 ≤ n → 8 ≤ e → Tidy rest → (rds n).ahead (x ++ rest) = some (t, spc rest)) (F : ∀ n l rest, 6 * k + 6 ≤ n → l ≤ e → 2 ≤ e → Tidy rest → BadT l (spc rest) → (rds (n + 1)).two l (x ++ rest) = none) : Bk t e k x := by
  refine ⟨A, fun n rest hn ti h h63 => ?_, C, F, fun n rest hn ti h => ?_⟩
  · exact sum_two (A n 2 rest (some (t, spc rest)) hn h2 h2 ti (fun p z => by rw [h] at z; cases z) (loop_stop fun p z => by rw [h] at z; cases z)) h63
  · rcases h with h | ⟨h, r2, e1, z⟩
    · exact sum_none (F n 2 rest hn h2 h2 ti h)
    · refine sum_badq (r2 := r2) (t := t) ?_ z
      have y := A n 2 rest (some (t, spc rest)) hn h2 h2 ti (fun p z => by rw [h] at z; cases z) (loop_stop fun p z => by rw [h] at z; cases z)
      rw [y, e1]
theorem bk_ahead {t : Sm} {e k : Nat} {x : L} (h8 : 8 ≤ e) (C : ∀ n rest, 6 * k + 6 ≤ n → Tidy rest → (rds n).ahead (x ++ rest) = some (t, spc rest)) : Bk t e k x :=
  bk_two (by omega) (fun n l rest o hn _ _ ti _ q => two_ofO (C n rest hn ti) q) (fun n rest hn _ ti => C n rest hn ti) (fun n l rest hn _ _ ti b => two_ofO (o := none) (C n rest hn ti) (b.loop n t))
theorem ahead_bl {n : Nat} {g : L} (hg : Bl g) (r : L) : (rds (n + 1)).ahead (g ++ r) = (rds (n + 1)).ahead r := by
  show aheadF _ _ (g ++ r) = aheadF _ _ r
  unfold aheadF
  rw [spc_bl hg]
theorem two_bl {n l : Nat} {g : L} (hg : Bl g) (r : L) : (rds (n + 2)).two l (g ++ r) = (rds (n + 2)).two l r := by
  show twoF _ _ l (g ++ r) = twoF _ _ l r
  unfold twoF
  rw [ahead_bl hg]
theorem sum_bl {n : Nat} {g : L} (hg : Bl g) (r : L) : (rds (n + 3)).sum (g ++ r) = (rds (n + 3)).sum r := by
  show sumF _ _ (g ++ r) = sumF _ _ r
  unfold sumF
  rw [two_bl hg]
theorem leaf_bk {t : Sm} {x : L} (hf : First x) (h1 : x.head? ≠ some 45) (h2 : x.head? ≠ some 33) (hp : ∀ n rest, Tidy rest → (rds (n + 1)).plain (x ++ rest) = some (t, rest)) : Bk t 9 0 x := by
  refine bk_ahead (by omega) fun n rest hn ti => ?_
  obtain ⟨m, rfl⟩ : ∃ m, n = m + 2 := ⟨n - 2, by omega⟩
  have hd : ∀ c, x.head? ≠ some c → (x ++ rest).head? ≠ some c := fun c z => by
    obtain ⟨d, q, e, _⟩ := hf
    rw [e] at z ⊢
    exact z
  exact ahead_plain (first_app hf) (hd 45 h1) (hd 33 h2) (hp m rest ti)
theorem plain_nam {n : Nat} {w : Str} {rest : L} (h : isNm (cs w) = true) (ti : Tidy rest) : (rds (n + 1)).plain (cs w ++ rest) = some (.of w, rest) := by
  obtain ⟨c, r, q, m, al⟩ := nm_cons h
  have t2 := tidy_no ti (S := namC) (fun _ z => z) (l := cs w) (by rw [q]; exact fun d md => by rcases List.mem_cons.mp md with rfl | md; exact sta_nam _ m; exact al d md)
  rw [q] at t2
  show plainF _ (cs w ++ rest) = _
  rw [q]
  unfold plainF
  have k1 : c ≠ 40 := fun e => by rw [e] at m; revert m; decide +kernel
  have k2 : c ≠ 36 := fun e => by rw [e] at m; revert m; decide +kernel
  rw [List.cons_append] at t2 ⊢
  split
  · rename_i e; exact (k1 (List.cons.inj e).1).elim
  · rename_i e; exact (k2 (List.cons.inj e).1).elim
  · rename_i e
    cases e
    rw [if_pos m, t2.1, t2.2, ← q, st_cs]
  · rename_i e; cases e
theorem bk {t : Sm} {e k : Nat} {x : L} (h : Wr t e k x) : Bk t e k x := by
  induction h with
  | num n =>
    obtain ⟨a, b, c, d⟩ := nmC_ok n
    have c' : (nmC n).head? = some 48 → (nmC n).length = 1 := fun z => by
      by_cases z0 : n = 0
      · subst z0
        rw [nmC_lt (by decide)]
        rfl
      · exact (c z0 z).elim
    have hd : ∀ x, x ∉ digC → (nmC n).head? ≠ some x := fun x hx z => hx (b x (List.mem_of_head? z))
    refine leaf_bk (wr_fst (.num n)) (hd 45 (by decide)) (hd 33 (by decide)) fun m rest ti => ?_
    rw [plain_dig ti a b c', d]
  | @nam w h =>
    obtain ⟨c, r, q, m, al⟩ := nm_cons h
    have n1 : ∀ x, x ∉ staC → (cs w).head? ≠ some x := fun x hx z => by
      rw [q] at z
      exact hx (by rw [← Option.some.inj z]; exact m)
    exact leaf_bk (wr_fst (.nam h)) (n1 45 (by decide +kernel)) (n1 33 (by decide +kernel)) fun n rest ti => plain_nam h ti
  | @plc w h =>
    refine leaf_bk (wr_fst (.plc h)) (by simp) (by simp) fun n rest ti => ?_
    show plainF (rds n).sum (36 :: (cs w ++ rest)) = _
    rw [plainF_36 (rdPlc_of ti h), st_cs]
  | @one s a e k g y hs hg ha he ih =>
    refine bk_ahead (Nat.le_refl _) fun n rest hn ti => ?_
    obtain ⟨m, rfl⟩ : ∃ m, n = m + 2 := ⟨n - 2, by omega⟩
    have z : (rds (m + 1)).ahead (g ++ (y ++ rest)) = some (a, spc rest) := by
      rw [ahead_bl hg]
      exact ih.C (m + 1) rest (by omega) he ti
    have es : (aheadC s ++ (g ++ y)) ++ rest = aheadC s ++ (g ++ (y ++ rest)) := by simp
    rw [es]
    rcases hs with rfl | rfl
    · exact aheadF_45 (plain := (rds (m + 1)).plain) (spc_first ⟨45, _, rfl, by decide⟩) z
    · exact aheadF_33 (plain := (rds (m + 1)).plain) (spc_first ⟨33, _, rfl, by decide⟩) z
  | @two s a b e f k m g h y z hs hg hh ha he hb hf ih1 ih2 =>
    obtain ⟨c, mc⟩ := op_tpk hs
    have hk : 2 ≤ rk s ∧ rk s ≤ 7 := (tpk_op _ mc).2
    have ec : cs s = c := tpk_cs _ mc
    have es : ∀ rest, (y ++ (g ++ (cs s ++ (h ++ z)))) ++ rest = y ++ (g ++ (c ++ (h ++ (z ++ rest)))) := fun rest => by
      rw [ec]
      simp
    have e1 : ∀ rest, spc (g ++ (c ++ (h ++ (z ++ rest)))) = c ++ (h ++ (z ++ rest)) := fun rest => by rw [spc_bl hg, spc_op mc]
    have tp : ∀ rest, tpSign (c ++ (h ++ (z ++ rest))) = some (s, c) := fun rest => tp_op' mc (no_eq hh hb rest)
    have dr : ∀ rest, (c ++ (h ++ (z ++ rest))).drop c.length = h ++ (z ++ rest) := fun rest => by simp
    have t1 : ∀ rest, Tidy (g ++ (c ++ (h ++ (z ++ rest)))) := fun rest => tidy_bl hg (tidy_op mc _)
    -- the second part
    have second : ∀ n rest, 6 * m + 6 ≤ n + 1 → Tidy rest → (∀ p, tpSign (spc rest) = some p → rk p.1 ≤ rk s) → (rds (n + 2)).two (rk s + 1) (h ++ (z ++ rest)) = some (b, spc rest) := fun n rest hn ti nx => by
      rw [two_bl hh]
      exact ih2.A (n + 1) (rk s + 1) rest (some (b, spc rest)) hn hf (by omega) ti (fun p q => by have := nx p q; omega) (loop_stop fun p q => Nat.lt_succ_of_le (nx p q))
    have whole : ∀ n l rest o, 6 * (max k m + 1) + 6 ≤ n → l ≤ rk s → (LoopO n l a (c ++ (h ++ (z ++ rest))) o) → Tidy rest → (rds (n + 1)).two l ((y ++ (g ++ (cs s ++ (h ++ z)))) ++ rest) = o := fun n l rest o hn hl q ti => by
      rw [es]
      refine ih1.A n l _ o (by omega) (by omega) (by omega) (t1 rest) (fun p w => by rw [e1, tp] at w; cases w; exact he) ?_
      rw [e1]
      exact q
    refine bk_two hk.1 (fun n l rest o hn hl _ ti nx q => ?_) (fun n rest hn h8 _ => by omega) (fun n l rest hn hl _ ti bad => ?_)
    · refine whole n l rest o hn hl ?_ ti
      obtain ⟨n', rfl⟩ : ∃ n', n = n' + 2 := ⟨n - 2, by omega⟩
      have sec := second n' rest (by omega) ti nx
      have step : ∀ m', loopW (rds (n' + 2)).two (m' + 1) l a (c ++ (h ++ (z ++ rest))) = loopW (rds (n' + 2)).two m' l (.two s a b) (spc rest) := fun m' => by
        rw [loopW.eq_2, tp]
        dsimp only
        rw [if_pos hl, dr, sec]
      cases o with
      | none =>
        intro m'
        cases m' with
        | zero => rfl
        | succ m' => rw [step]; exact q m'
      | some o =>
        obtain ⟨m', hm, em⟩ := q
        refine ⟨m' + 1, ?_, by rw [step]; exact em⟩
        have : (spc rest).length ≤ rest.length := by
          obtain ⟨p, e⟩ := spc_pre rest
          have z := congrArg List.length e
          rw [List.length_append] at z
          omega
        have : 1 ≤ c.length := (tpk_w2 _ mc).2
        simp only [List.length_append]
        omega
    · refine whole n l rest none hn hl ?_ ti
      obtain ⟨n', rfl⟩ : ∃ n', n = n' + 2 := ⟨n - 2, by omega⟩
      intro m'
      cases m' with
      | zero => rfl
      | succ m' =>
        obtain ⟨p, ep, hp, zp⟩ := id bad
        rw [loopW.eq_2, tp]
        dsimp only
        rw [if_pos hl, dr]
        by_cases c2 : rk s + 1 ≤ rk p.1
        · have no : (rds (n' + 2)).two (rk s + 1) (h ++ (z ++ rest)) = none := by
            rw [two_bl hh]
            exact ih2.F (n' + 1) (rk s + 1) rest (by omega) hf (by omega) ti ⟨p, ep, c2, zp⟩
          rw [no]
        · rw [second n' rest (by omega) ti (fun p' q => by rw [ep] at q; cases q; omega)]
          exact bad.loop _ _ _
  | @three a b c e f d k m j g1 g2 g3 g4 y z u h1 h2 h3 h4 ha he hb hc ih1 ih2 ih3 =>
    have s63 : ∀ r, spc (g1 ++ 63 :: r) = 63 :: r := fun r => by rw [spc_bl h1, spc_first ⟨63, r, rfl, by decide⟩]
    have s58 : ∀ r, spc (g3 ++ 58 :: r) = 58 :: r := fun r => by rw [spc_bl h3, spc_first ⟨58, r, rfl, by decide⟩]
    have t63 : ∀ r, tpSign (63 :: r) = none := fun r => tp_no fun c l e => by cases e; decide
    have t58 : ∀ r, tpSign (58 :: r) = none := fun r => tp_no fun c l e => by cases e; decide
    have ti63 : ∀ r, Tidy (g1 ++ 63 :: r) := fun r => tidy_bl h1 fun c l e => by cases e; decide +kernel
    have ti58 : ∀ r, Tidy (g3 ++ 58 :: r) := fun r => tidy_bl h3 fun c l e => by cases e; decide +kernel
    have es : ∀ rest, (y ++ (g1 ++ 63 :: (g2 ++ (z ++ (g3 ++ 58 :: (g4 ++ u)))))) ++ rest = y ++ (g1 ++ 63 :: (g2 ++ (z ++ (g3 ++ 58 :: (g4 ++ (u ++ rest)))))) := fun rest => by simp
    have one : ∀ n rest, 6 * (max k (max m j) + 1) + 6 ≤ n → (rds (n + 1)).two 2 (y ++ (g1 ++ 63 :: (g2 ++ (z ++ (g3 ++ 58 :: (g4 ++ (u ++ rest))))))) = some (a, 63 :: (g2 ++ (z ++ (g3 ++ 58 :: (g4 ++ (u ++ rest)))))) := fun n rest hn => by
      have w := ih1.A n 2 (g1 ++ 63 :: (g2 ++ (z ++ (g3 ++ 58 :: (g4 ++ (u ++ rest)))))) (some (a, 63 :: (g2 ++ (z ++ (g3 ++ 58 :: (g4 ++ (u ++ rest))))))) (by omega) he he (ti63 _) (fun p q => by rw [s63, t63] at q; cases q) (by
        rw [s63]
        exact loop_stop fun p q => by rw [t63] at q; cases q)
      exact w
    have mid : ∀ n rest, 6 * (max k (max m j) + 1) + 6 ≤ n → (rds (n + 1)).sum (g2 ++ (z ++ (g3 ++ 58 :: (g4 ++ (u ++ rest))))) = some (b, 58 :: (g4 ++ (u ++ rest))) := fun n rest hn => by
      obtain ⟨n', rfl⟩ : ∃ n', n = n' + 2 := ⟨n - 2, by omega⟩
      rw [sum_bl h2, ih2.B (n' + 1) _ (by omega) (ti58 _) (by rw [s58, t58]) (by rw [s58]; simp), s58]
    refine ⟨fun n l rest o hn hl h2' => by omega, fun n rest hn ti tn h63 => ?_, fun n rest hn h8 => by omega, fun n l rest hn hl h2' => by omega, fun n rest hn ti bad => ?_⟩
    · rw [es]
      obtain ⟨n', rfl⟩ : ∃ n', n = n' + 2 := ⟨n - 2, by omega⟩
      have last : (rds (n' + 3)).sum (g4 ++ (u ++ rest)) = some (c, spc rest) := by
        rw [sum_bl h4]
        exact ih3.B (n' + 1) rest (by omega) ti tn h63
      exact sumF_63 (one _ rest (by omega)) (mid _ rest (by omega)) last
    · rw [es]
      obtain ⟨n', rfl⟩ : ∃ n', n = n' + 2 := ⟨n - 2, by omega⟩
      have last : (rds (n' + 3)).sum (g4 ++ (u ++ rest)) = none := by
        rw [sum_bl h4]
        exact ih3.G (n' + 1) rest (by omega) ti bad
      show sumF (rds (n' + 3)).sum (rds (n' + 3)).two _ = none
      rw [sumF_q (one (n' + 2) rest (by omega)), mid (n' + 2) rest (by omega)]
      show (match (rds (n' + 3)).sum (g4 ++ (u ++ rest)) with
        | none => none
        | some (b', r4) => some (Sm.three "choose" a b b', r4)) = none
      rw [last]
  | @par a e k y ha ih =>
    refine bk_ahead (by omega) fun n rest hn ti => ?_
    obtain ⟨m, rfl⟩ : ∃ m, n = m + 4 := ⟨n - 4, by omega⟩
    have es : (40 :: (y ++ [41])) ++ rest = 40 :: (y ++ 41 :: rest) := by simp
    rw [es]
    refine ahead_plain (n := m + 3) ⟨40, _, rfl, by decide⟩ (by simp) (by simp) (plainF_40 ?_)
    rw [ih.B m (41 :: rest) (by omega) tidy_41 (by rw [spc_41]; exact tp_no fun c l e => by cases e; decide) (by rw [spc_41]; simp), spc_41]
end Qb
end PySem
namespace PySem
namespace Qb
open PySem.W PySem.Calls PyProof.Rows L2
/-! # texts that are no sums -/
theorem spc_all {g : L} (h : Bl g) : spc g = [] := by
  have z := spc_bl h []
  rw [List.append_nil] at z
  exact z
theorem told_read {t : Sm} {e k n : Nat} {x g1 g2 : L} (h : Wr t e k x) (h1 : Bl g1) (h2 : Bl g2) (hn : 6 * k + 10 ≤ n) : rdAll n (g1 ++ (x ++ g2)) = some t := by
  obtain ⟨m, rfl⟩ : ∃ m, n = m + 3 := ⟨n - 3, by omega⟩
  refine rdAll_some ?_
  have ti : Tidy g2 := by
    have z := tidy_bl h2 tidy_nil
    rw [List.append_nil] at z
    exact z
  rw [sum_bl h1, (bk h).B (m + 1) g2 (by omega) ti (by rw [spc_all h2]; rfl) (by rw [spc_all h2]; simp), spc_all h2]
/-- what stands behind a sum and lets none be read -/
def Bad (r : L) : Prop := Tidy r ∧ ((tpSign (spc r) = none ∧ (spc r).head? ≠ some 63 ∧ spc r ≠ []) ∨ BadT 2 (spc r) ∨ BadQ (spc r))
theorem behind_none {t : Sm} {e k n : Nat} {x g1 g2 b : L} (h : Wr t e k x) (h1 : Bl g1) (h2 : Bl g2) (hn : 6 * k + 10 ≤ n) (hb : Bad b) : rdAll n ((g1 ++ (x ++ g2)) ++ b) = none := by
  obtain ⟨m, rfl⟩ : ∃ m, n = m + 3 := ⟨n - 3, by omega⟩
  have es : (g1 ++ (x ++ g2)) ++ b = g1 ++ (x ++ (g2 ++ b)) := by simp
  have ti := tidy_bl h2 hb.1
  refine rdAll_none fun t' z => ?_
  rw [es, sum_bl h1] at z
  rcases hb.2 with ⟨a1, a2, a3⟩ | hb
  · rw [(bk h).B (m + 1) (g2 ++ b) (by omega) ti (by rw [spc_bl h2]; exact a1) (by rw [spc_bl h2]; exact a2), spc_bl h2] at z
    exact a3 (Prod.mk.inj (Option.some.inj z)).2
  · rw [(bk h).G (m + 1) (g2 ++ b) (by omega) ti (by rw [spc_bl h2]; exact hb)] at z
    cases z
theorem ahead_none {r : L} (hp : ∀ n, (rds n).plain (spc r) = none) (h1 : (spc r).head? ≠ some 45) (h2 : (spc r).head? ≠ some 33) : ∀ n, (rds n).ahead r = none
  | 0 => rfl
  | n + 1 => by
    show aheadF (rds n).ahead (rds n).plain r = none
    unfold aheadF
    split
    · rename_i e; rw [e] at h1; exact (h1 rfl).elim
    · rename_i e; rw [e] at h2; exact (h2 rfl).elim
    · rw [hp]
theorem two_none {r : L} (h : ∀ n, (rds n).ahead r = none) : ∀ n l, (rds n).two l r = none
  | 0, l => rfl
  | n + 1, l => by
    show twoF (rds n).two (rds n).ahead l r = none
    unfold twoF
    rw [h]
theorem sum_no {r : L} (h : ∀ n, (rds n).ahead r = none) : ∀ n, (rds n).sum r = none
  | 0 => rfl
  | n + 1 => sum_none (two_none h n 2)
theorem plain_odd {c : Nat} {q : L} (h : c ∉ staC ++ digC ++ [40, 36]) : ∀ n, (rds n).plain (c :: q) = none
  | 0 => rfl
  | n + 1 => by
    have h1 : c ∉ staC := fun z => h (List.mem_append_left _ (List.mem_append_left _ z))
    have h2 : c ∉ digC := fun z => h (List.mem_append_left _ (List.mem_append_right _ z))
    have d0 : rdDig (c :: q) = none := by
      unfold rdDig
      have e : (c :: q).takeWhile (fun c => decide (c ∈ digC)) = [] := List.takeWhile_cons_of_neg (by simpa using h2)
      dsimp only
      rw [e, if_pos (.inl rfl)]
    show plainF _ (c :: q) = none
    unfold plainF
    split
    · rename_i e; rw [(List.cons.inj e).1] at h; exact (h (by decide +kernel)).elim
    · rename_i e; rw [(List.cons.inj e).1] at h; exact (h (by decide +kernel)).elim
    · rename_i e
      cases e
      rw [if_neg h1, d0]
    · rfl
theorem plain_nil : ∀ n, (rds n).plain [] = none
  | 0 => rfl
  | n + 1 => rfl
theorem ahead_blank {r : L} (h : Bl r) : ∀ n, (rds n).ahead r = none := ahead_none (by rw [spc_all h]; exact plain_nil) (by rw [spc_all h]; simp) (by rw [spc_all h]; simp)
theorem ahead_odd {r q : L} {c : Nat} (e : spc r = c :: q) (h : c ∉ staC ++ digC ++ [40, 36, 45, 33]) : ∀ n, (rds n).ahead r = none :=
  ahead_none (by rw [e]; exact plain_odd fun z => h (by
    rcases List.mem_append.mp z with z | z
    · exact List.mem_append_left _ z
    · exact List.mem_append_right _ ((by decide : ∀ c ∈ [40, 36], c ∈ [40, 36, 45, 33]) c z))) (by rw [e]; exact fun z => h (by rw [Option.some.inj z]; decide +kernel)) (by rw [e]; exact fun z => h (by rw [Option.some.inj z]; decide +kernel))
theorem badT_of {r q : L} {s : Str} {c : L} (e : tpSign r = some (s, c)) (h2 : 2 ≤ rk s) (ed : r.drop c.length = q) (h : Bl q) : BadT 2 r := ⟨(s, c), e, h2, fun n m => by rw [ed]; exact two_none (ahead_blank h) n m⟩
abbrev bhW : List Str := [" +", ")", " 1", " = 1", " & 1", " ? 1", " : 1", " ? : 1", " || ", " !", " x", "$1", " -"]
theorem tidy_first {c : Nat} {l : L} (h : c ∉ namC) : Tidy (c :: l) := fun d q e => by rw [← (List.cons.inj e).1]; exact h
theorem bh_bad : ∀ w ∈ bhW, Bad (cs w) := by
  intro w hw
  have bl0 : Bl [] := fun c m => by cases m
  have bl1 : Bl [32] := fun c m => by rw [List.mem_singleton.mp m]; decide
  have t32 : ∀ l, Tidy (32 :: l) := fun l => tidy_first (by decide +kernel)
  have more : ∀ {r : L}, Tidy r → (tpSign (spc r)).isNone = true → (spc r).head? ≠ some 63 → spc r ≠ [] → Bad r := fun ti a b c => ⟨ti, .inl ⟨Option.isNone_iff_eq_none.mp a, b, c⟩⟩
  have e : ∀ w ∈ bhW, cs w ∈ ([[32, 43], [41], [32, 49], [32, 61, 32, 49], [32, 38, 32, 49], [32, 63, 32, 49], [32, 58, 32, 49], [32, 63, 32, 58, 32, 49], [32, 124, 124, 32], [32, 33], [32, 120], [36, 49], [32, 45]] : List L) := by decide +kernel
  have m := e w hw
  generalize cs w = l at m
  simp only [List.mem_cons, List.not_mem_nil, or_false] at m
  rcases m with rfl | rfl | rfl | rfl | rfl | rfl | rfl | rfl | rfl | rfl | rfl | rfl | rfl
  · exact ⟨t32 _, .inr (.inl (badT_of (s := "+") (c := [43]) (q := []) (by decide +kernel) (by decide +kernel) rfl bl0))⟩
  · exact more (tidy_first (by decide +kernel)) (by decide +kernel) (by decide +kernel) (by decide +kernel)
  · exact more (t32 _) (by decide +kernel) (by decide +kernel) (by decide +kernel)
  · exact more (t32 _) (by decide +kernel) (by decide +kernel) (by decide +kernel)
  · exact more (t32 _) (by decide +kernel) (by decide +kernel) (by decide +kernel)
  · refine ⟨t32 _, .inr (.inr ⟨Option.isNone_iff_eq_none.mp (by decide +kernel), [32, 49], by decide +kernel, fun n a r3 z => ?_⟩)⟩
    obtain ⟨p, A⟩ := (rds_ate (k := 80) (Nat.le_refl _) n).1 _ _ _ (fun p q s e _ => by
      have := congrArg List.length e
      simp only [List.length_append, List.length_cons, List.length_nil] at this
      omega) z
    have : 58 ∈ ([32, 49] : L) := by rw [A.eq]; exact List.mem_append_right _ (.head _)
    revert this
    decide
  · exact more (t32 _) (by decide +kernel) (by decide +kernel) (by decide +kernel)
  · refine ⟨t32 _, .inr (.inr ⟨Option.isNone_iff_eq_none.mp (by decide +kernel), [32, 58, 32, 49], by decide +kernel, fun n a r3 z => ?_⟩)⟩
    rw [sum_no (ahead_odd (q := [32, 49]) (c := 58) (by decide +kernel) (by decide +kernel))] at z
    cases z
  · exact ⟨t32 _, .inr (.inl (badT_of (s := "||") (c := [124, 124]) (q := [32]) (by decide +kernel) (by decide +kernel) rfl bl1))⟩
  · exact more (t32 _) (by decide +kernel) (by decide +kernel) (by decide +kernel)
  · exact more (t32 _) (by decide +kernel) (by decide +kernel) (by decide +kernel)
  · exact more (tidy_first (by decide +kernel)) (by decide +kernel) (by decide +kernel) (by decide +kernel)
  · exact ⟨t32 _, .inr (.inl (badT_of (s := "-") (c := [45]) (q := []) (by decide +kernel) (by decide +kernel) rfl bl0))⟩
abbrev ahW : List Str := ["(", "* ", "== ", "01 + ", "$x + ", "$@ + ", "$01 + ", "1x + ", "+ ", "~", "$ 1 + "]
theorem rdAll_no {n : Nat} {r : L} (h : ∀ n, (rds n).ahead r = none) : rdAll n r = none := rdAll_none fun t z => by rw [sum_no h n] at z; cases z
theorem plain_pl {q : L} (h : rdPlc q = none) : ∀ n, (rds n).plain (36 :: q) = none
  | 0 => rfl
  | n + 1 => by
    show (match rdPlc q with
      | none => none
      | some (w, r2) => some (Sm.of (st w), r2)) = none
    rw [h]
theorem ahead_pl {q : L} (h : rdPlc q = none) : ∀ n, (rds n).ahead (36 :: q) = none := by
  have e : spc (36 :: q) = 36 :: q := spc_first ⟨36, q, rfl, by decide⟩
  exact ahead_none (by rw [e]; exact plain_pl h) (by rw [e]; simp) (by rw [e]; simp)
theorem dig01 (r : L) : rdDig (48 :: 49 :: 32 :: r) = none := by
  unfold rdDig
  have e : (48 :: 49 :: 32 :: r).takeWhile (fun c => decide (c ∈ digC)) = [48, 49] := rfl
  dsimp only
  rw [e, if_pos (.inr ⟨rfl, by decide⟩)]
theorem dig_odd {c : Nat} {r : L} (h : c ∉ digC) : rdDig (c :: r) = none := by
  unfold rdDig
  have e : (c :: r).takeWhile (fun c => decide (c ∈ digC)) = [] := List.takeWhile_cons_of_neg (by simpa using h)
  dsimp only
  rw [e, if_pos (.inl rfl)]
theorem pl_odd {c : Nat} {r : L} (h : c ∉ digC ++ [35, 63]) : rdPlc (c :: r) = none := by
  unfold rdPlc
  split
  · rename_i e; rw [(List.cons.inj e).1] at h; exact (h (by decide +kernel)).elim
  · rename_i e; rw [(List.cons.inj e).1] at h; exact (h (by decide +kernel)).elim
  · exact dig_odd fun z => h (List.mem_append_left _ z)
theorem plainF_dig {sum : Rd} {c : Nat} {q : L} (h : c ∉ staC ++ [40, 36]) : plainF sum (c :: q) = (match rdDig (c :: q) with
    | none => none
    | some (d, r2) => some (Sm.num (digVal d), r2)) := by
  unfold plainF
  split
  · rename_i e; rw [(List.cons.inj e).1] at h; exact (h (by decide +kernel)).elim
  · rename_i e; rw [(List.cons.inj e).1] at h; exact (h (by decide +kernel)).elim
  · rename_i e
    cases e
    rw [if_neg fun z => h (List.mem_append_left _ z)] <;> rfl
  · rename_i e; cases e
theorem ahead_bad {t : Sm} {e k n : Nat} {x g1 g2 : L} (h : Wr t e k x) (h1 : Bl g1) (h2 : Bl g2) (hn : 6 * k + 20 ≤ n) : ∀ w ∈ ahW, rdAll n (cs w ++ (g1 ++ (x ++ g2))) = none := by
  intro w hw
  have e : ∀ w ∈ ahW, cs w ∈ ([[40], [42, 32], [61, 61, 32], [48, 49, 32, 43, 32], [36, 120, 32, 43, 32], [36, 64, 32, 43, 32], [36, 48, 49, 32, 43, 32], [49, 120, 32, 43, 32], [43, 32], [126], [36, 32, 49, 32, 43, 32]] : List L) := by decide +kernel
  have m := e w hw
  have told := told_read h h1 h2 (n := n - 4) (by omega)
  generalize g1 ++ (x ++ g2) = r at told
  generalize cs w = l at m
  simp only [List.mem_cons, List.not_mem_nil, or_false] at m
  have sp : ∀ (c : Nat) (q : L), c ∉ wsC → spc (c :: q) = c :: q := fun c q hc => spc_first ⟨c, q, rfl, hc⟩
  rcases m with rfl | rfl | rfl | rfl | rfl | rfl | rfl | rfl | rfl | rfl | rfl
  · obtain ⟨m, rfl⟩ : ∃ m, n = m + 4 := ⟨n - 4, by omega⟩
    have pn : (rds (m + 1)).plain (40 :: r) = none := by
      show (match (rds m).sum r with
        | some (t, 41 :: r2) => some (t, r2)
        | _ => none) = none
      unfold rdAll at told
      split at told
      · rename_i u e2
        have : (rds m).sum r = some (u, []) := e2
        rw [this]
      · cases told
    have an : (rds (m + 2)).ahead (40 :: r) = none := by
      show aheadF (rds (m + 1)).ahead (rds (m + 1)).plain (40 :: r) = none
      unfold aheadF
      rw [sp 40 r (by decide)]
      split
      · rename_i e; cases e
      · rename_i e; cases e
      · rw [pn]
    have tn : (rds (m + 3)).two 2 (40 :: r) = none := by
      show twoF (rds (m + 2)).two (rds (m + 2)).ahead 2 (40 :: r) = none
      unfold twoF
      rw [an]
    refine rdAll_none fun t' z => ?_
    rw [show [40] ++ r = 40 :: r from rfl, sum_none tn] at z
    cases z
  · exact rdAll_no (ahead_odd (sp 42 _ (by decide)) (by decide +kernel))
  · exact rdAll_no (ahead_odd (sp 61 _ (by decide)) (by decide +kernel))
  · refine rdAll_no (ahead_none ?_ (by rw [show [48, 49, 32, 43, 32] ++ r = 48 :: (49 :: 32 :: 43 :: 32 :: r) from rfl, sp 48 _ (by decide)]; simp) (by rw [show [48, 49, 32, 43, 32] ++ r = 48 :: (49 :: 32 :: 43 :: 32 :: r) from rfl, sp 48 _ (by decide)]; simp))
    rw [show [48, 49, 32, 43, 32] ++ r = 48 :: (49 :: 32 :: 43 :: 32 :: r) from rfl, sp 48 _ (by decide)]
    intro n
    cases n with
    | zero => rfl
    | succ n =>
      show plainF (rds n).sum (48 :: 49 :: 32 :: 43 :: 32 :: r) = none
      rw [plainF_dig (by decide +kernel), dig01]
  · exact rdAll_no (ahead_pl (pl_odd (by decide +kernel)))
  · exact rdAll_no (ahead_pl (pl_odd (by decide +kernel)))
  · refine rdAll_no (ahead_pl ?_)
    show rdDig (48 :: 49 :: 32 :: 43 :: 32 :: r) = none
    exact dig01 _
  · refine rdAll_none fun t' z => ?_
    have e1 : [49, 120, 32, 43, 32] ++ r = 49 :: 120 :: 32 :: 43 :: 32 :: r := rfl
    rw [e1] at z
    obtain ⟨m, rfl⟩ : ∃ m, n = m + 4 := ⟨n - 4, by omega⟩
    have pn : (rds (m + 1)).plain (49 :: 120 :: 32 :: 43 :: 32 :: r) = some (.num 1, 120 :: 32 :: 43 :: 32 :: r) := by
      show plainF (rds m).sum (49 :: 120 :: 32 :: 43 :: 32 :: r) = _
      rw [plainF_dig (by decide +kernel)]
      have d1 : rdDig (49 :: 120 :: 32 :: 43 :: 32 :: r) = some ([49], 120 :: 32 :: 43 :: 32 :: r) := by
        unfold rdDig
        have a : (49 :: 120 :: 32 :: 43 :: 32 :: r).takeWhile (fun c => decide (c ∈ digC)) = [49] := rfl
        have b : (49 :: 120 :: 32 :: 43 :: 32 :: r).dropWhile (fun c => decide (c ∈ digC)) = 120 :: 32 :: 43 :: 32 :: r := rfl
        dsimp only
        rw [a, b, if_neg (by decide)]
      rw [d1]
      rfl
    have an : (rds (m + 2)).ahead (49 :: 120 :: 32 :: 43 :: 32 :: r) = some (.num 1, 120 :: 32 :: 43 :: 32 :: r) := by
      rw [ahead_plain (n := m + 1) ⟨49, _, rfl, by decide⟩ (by simp) (by simp) pn, sp 120 _ (by decide)]
    have tn : (rds (m + 3)).two 2 (49 :: 120 :: 32 :: 43 :: 32 :: r) = some (.num 1, 120 :: 32 :: 43 :: 32 :: r) :=
      two_of an (loop_stop fun p q => by rw [tp_no (fun c l e => by cases e; decide)] at q; cases q)
    rw [sum_two tn (by simp)] at z
    cases z
  · exact rdAll_no (ahead_odd (sp 43 _ (by decide)) (by decide +kernel))
  · exact rdAll_no (ahead_odd (sp 126 _ (by decide)) (by decide +kernel))
  · exact rdAll_no (ahead_pl (pl_odd (by decide +kernel)))
theorem blank_none {n : Nat} {g : L} (h : Bl g) : rdAll n g = none := rdAll_no (ahead_blank h)
end Qb
end PySem
namespace PySem
namespace Qb
open PySem.W PySem.Calls PyProof.Rows L2
/-! # the law's text of a sum: how long, how deep -/
theorem size_ht : ∀ (t : Sm), 2 * t.size + 1 ≤ 3 ^ (t.ht + 1)
  | .num _ => (by decide : 2 * 1 + 1 ≤ 3 ^ (0 + 1))
  | .of _ => (by decide : 2 * 1 + 1 ≤ 3 ^ (0 + 1))
  | .one _ a => by
    have i := size_ht a
    show 2 * (1 + a.size) + 1 ≤ 3 ^ (1 + a.ht + 1)
    rw [show 1 + a.ht + 1 = (a.ht + 1) + 1 by omega, Nat.pow_succ]
    have : 3 ≤ 3 ^ (a.ht + 1) := by rw [Nat.pow_succ]; have := Nat.one_le_pow a.ht 3 (by decide); omega
    omega
  | .two _ a b => by
    have i := size_ht a
    have j := size_ht b
    show 2 * (1 + a.size + b.size) + 1 ≤ 3 ^ (1 + max a.ht b.ht + 1)
    rw [show 1 + max a.ht b.ht + 1 = (max a.ht b.ht + 1) + 1 by omega, Nat.pow_succ]
    have p : 3 ^ (a.ht + 1) ≤ 3 ^ (max a.ht b.ht + 1) := Nat.pow_le_pow_right (by decide) (by omega)
    have q : 3 ^ (b.ht + 1) ≤ 3 ^ (max a.ht b.ht + 1) := Nat.pow_le_pow_right (by decide) (by omega)
    have : 3 ≤ 3 ^ (max a.ht b.ht + 1) := by rw [Nat.pow_succ]; have := Nat.one_le_pow (max a.ht b.ht) 3 (by decide); omega
    omega
  | .three _ a b c => by
    have i := size_ht a
    have j := size_ht b
    have k := size_ht c
    show 2 * (1 + a.size + b.size + c.size) + 1 ≤ 3 ^ (1 + max a.ht (max b.ht c.ht) + 1)
    rw [show 1 + max a.ht (max b.ht c.ht) + 1 = (max a.ht (max b.ht c.ht) + 1) + 1 by omega, Nat.pow_succ]
    have p : 3 ^ (a.ht + 1) ≤ 3 ^ (max a.ht (max b.ht c.ht) + 1) := Nat.pow_le_pow_right (by decide) (by omega)
    have q : 3 ^ (b.ht + 1) ≤ 3 ^ (max a.ht (max b.ht c.ht) + 1) := Nat.pow_le_pow_right (by decide) (by omega)
    have r : 3 ^ (c.ht + 1) ≤ 3 ^ (max a.ht (max b.ht c.ht) + 1) := Nat.pow_le_pow_right (by decide) (by omega)
    omega
theorem isz_ht : ∀ (t : Sm), 2 * t.isz + 1 ≤ 3 ^ t.ht
  | .num _ => (by decide : 2 * 0 + 1 ≤ 3 ^ 0)
  | .of _ => (by decide : 2 * 0 + 1 ≤ 3 ^ 0)
  | .one _ a => by
    have i := isz_ht a
    show 2 * (1 + a.isz) + 1 ≤ 3 ^ (1 + a.ht)
    rw [Nat.add_comm 1 a.ht, Nat.pow_succ]
    omega
  | .two _ a b => by
    have i := isz_ht a
    have j := isz_ht b
    show 2 * (1 + a.isz + b.isz) + 1 ≤ 3 ^ (1 + max a.ht b.ht)
    rw [Nat.add_comm 1 (max a.ht b.ht), Nat.pow_succ]
    have p : 3 ^ a.ht ≤ 3 ^ (max a.ht b.ht) := Nat.pow_le_pow_right (by decide) (by omega)
    have q : 3 ^ b.ht ≤ 3 ^ (max a.ht b.ht) := Nat.pow_le_pow_right (by decide) (by omega)
    omega
  | .three _ a b c => by
    have i := isz_ht a
    have j := isz_ht b
    have k := isz_ht c
    show 2 * (1 + a.isz + b.isz + c.isz) + 1 ≤ 3 ^ (1 + max a.ht (max b.ht c.ht))
    rw [Nat.add_comm 1 (max a.ht (max b.ht c.ht)), Nat.pow_succ]
    have p : 3 ^ a.ht ≤ 3 ^ (max a.ht (max b.ht c.ht)) := Nat.pow_le_pow_right (by decide) (by omega)
    have q : 3 ^ b.ht ≤ 3 ^ (max a.ht (max b.ht c.ht)) := Nat.pow_le_pow_right (by decide) (by omega)
    have r : 3 ^ c.ht ≤ 3 ^ (max a.ht (max b.ht c.ht)) := Nat.pow_le_pow_right (by decide) (by omega)
    omega
theorem Rn_mid {k : Nat} {a b : L} (ha : Rn k a) (hb : Rn k b) : ∀ {m : L}, m ≠ [] → (∀ c ∈ m, c ∉ digC) → Rn k (a ++ (m ++ b))
  | [], h, _ => (h rfl).elim
  | [c], _, h => Rn_cat ha hb (h c (.head _))
  | c :: d :: m, _, h => Rn_cat ha (Rn_mid (a := []) (Rn_len (Nat.zero_le _)) hb (m := d :: m) (by simp) fun e z => h e (.tail _ z)) (h c (.head _))
/-- a gap -/
structure Gp (g : L) : Prop where
  bl : Bl g
  few : g.length ≤ 2
theorem Gp.wt {g : L} (h : Gp g) : wt g = 0 := sum_zero fun c m => (by decide : ∀ c ∈ wsC, wc c = 0) c (h.bl c m)
theorem Gp.nd {g : L} (h : Gp g) : ∀ c ∈ g, c ∉ digC := fun c m => (by decide : ∀ c ∈ wsC, c ∉ digC) c (h.bl c m)
theorem gp32 : Gp [32] := ⟨fun c m => by rw [List.mem_singleton.mp m]; decide, by decide⟩
theorem gp0 : Gp [] := ⟨fun c m => (nomatch m), by decide⟩
/-- a text ahead of the brackets around it -/
structure Ty (t : Sm) (x : L) : Prop where
  wr : ∃ k, Wr t t.rank k x ∧ k ≤ 2 * t.ht
  wt : wt x + 4 ≤ 5 * t.size + t.isz
  rn : Rn 19 x
  len : x.length + 2 ≤ 40 * t.size
structure Tx (l : Nat) (t : Sm) (x : L) : Prop where
  wr : ∃ e k, Wr t e k x ∧ l ≤ e ∧ k ≤ 2 * t.ht + 1
  wt : wt x ≤ 5 * t.size + t.isz
  rn : Rn 19 x
  len : x.length ≤ 40 * t.size
theorem ty_tx {l : Nat} {t : Sm} {x : L} (h : Ty t x) (hl : l ≤ t.rank) : Tx l t x := by
  obtain ⟨k, w, hk⟩ := h.wr
  exact ⟨⟨_, k, w, hl, by omega⟩, by have := h.wt; omega, h.rn, by have := h.len; omega⟩
theorem ty_par {l : Nat} {t : Sm} {x : L} (h : Ty t x) (hl : l ≤ 9) : Tx l t (40 :: (x ++ [41])) := by
  obtain ⟨k, w, hk⟩ := h.wr
  refine ⟨⟨9, k + 1, .par w, hl, by omega⟩, ?_, par_rn h.rn true, ?_⟩
  · show wt ([40] ++ (x ++ [41])) ≤ _
    rw [wt_app, wt_app, show wt [40] = 4 by decide, show wt [41] = 0 by decide]
    have := h.wt
    omega
  · have := h.len
    simp only [List.length_cons, List.length_append, List.length_nil]
    omega
theorem ty_num {n : Int} (h0 : 0 ≤ n) (h1 : n ≤ 10 ^ 18) : Ty (.num n) (cs (Str.ofString (toString n))) := by
  have f := leaf_num h0 h1
  obtain ⟨k, rfl⟩ : ∃ k : Nat, n = k := ⟨n.toNat, (Int.toNat_of_nonneg h0).symm⟩
  refine ⟨⟨0, .num k, Nat.zero_le _⟩, by have := f.wt; show wt (Sm.num (k : Int)).shw + 4 ≤ 5 * 1 + 0; omega, f.rn, by have := f.len; show (Sm.num (k : Int)).shw.length + 2 ≤ 40 * 1; omega⟩
theorem ty_of {w : Str} (h : (Sm.of w).drn) : Ty (.of w) (Sm.of w).shw := by
  have f := leaf_of h
  have n := ok_nice (drn_ok (t := .of w) h).1
  refine ⟨⟨0, ?_, Nat.zero_le _⟩, by have := f.wt; show wt (Sm.of w).shw + 4 ≤ 5 * 1 + 0; omega, f.rn, by have := f.len; show (Sm.of w).shw.length + 2 ≤ 40 * 1; omega⟩
  show Wr (.of w) 9 0 (if isNm (cs w) then cs w else 36 :: cs w)
  rcases n with n | ⟨n, p⟩
  · rw [n, if_pos rfl]
    exact .nam n
  · rw [n, if_neg (by decide)]
    exact .plc p
theorem ty_one {s : Str} {a : Sm} {g y : L} (hs : s = "minus" ∨ s = "no") (hg : Gp g) (h : Tx 8 a y) : Ty (.one s a) (aheadC s ++ (g ++ y)) := by
  obtain ⟨e, k, w, he, hk⟩ := h.wr
  obtain ⟨x, ex, ax⟩ : ∃ x, aheadC s = [x] ∧ (x = 33 ∨ x = 45) := by
    unfold aheadC
    split
    · exact ⟨33, rfl, .inl rfl⟩
    · exact ⟨45, rfl, .inr rfl⟩
  have px : Qb.wt [x] = 1 ∧ x ∉ digC := by rcases ax with rfl | rfl <;> decide +kernel
  have hh : (Sm.one s a).ht = 1 + a.ht := rfl
  refine ⟨⟨k + 1, .one hs hg.bl w he, by omega⟩, ?_, ?_, ?_⟩
  · rw [ex, wt_app, wt_app, px.1, hg.wt]
    have := h.wt
    show _ ≤ 5 * (1 + a.size) + (1 + a.isz)
    omega
  · rw [ex]
    have z := Rn_mid (a := []) (k := 19) (Rn_len (Nat.zero_le _)) h.rn (m := x :: g) (by simp) (fun c m => by
      rcases List.mem_cons.mp m with rfl | m
      · exact px.2
      · exact hg.nd c m)
    exact z
  · rw [ex]
    have := h.len
    have := hg.few
    simp only [List.length_append, List.length_cons, List.length_nil]
    show _ ≤ 40 * (1 + a.size)
    omega
theorem ty_two {s : Str} {a b : Sm} {g h y z : L} (hs : isOp s = true) (hg : Gp g) (hh : Gp h) (ha : Tx (rk s) a y) (hb : Tx (rk s + 1) b z) : Ty (.two s a b) (y ++ (g ++ (cs s ++ (h ++ z)))) := by
  obtain ⟨e, k, w, he, hk⟩ := ha.wr
  obtain ⟨f, m, w2, hf, hm⟩ := hb.wr
  obtain ⟨c, mc⟩ := op_tpk hs
  have ec : cs s = c := tpk_cs _ mc
  have pc : Qb.wt c ≤ 2 ∧ c ≠ [] ∧ c.length ≤ 2 ∧ ∀ x ∈ c, x ∉ digC := (by decide +kernel : ∀ p ∈ tpk, Qb.wt p.2 ≤ 2 ∧ p.2 ≠ [] ∧ p.2.length ≤ 2 ∧ ∀ x ∈ p.2, x ∉ digC) _ mc
  have eh : (Sm.two s a b).ht = 1 + max a.ht b.ht := rfl
  have w1 := ha.wt
  have w3 := hb.wt
  have l1 := ha.len
  have l2 := hb.len
  have g1 := hg.few
  have g2 := hh.few
  refine ⟨⟨max k m + 1, .two hs hg.bl hh.bl w he w2 hf, by omega⟩, ?_, ?_, ?_⟩
  · rw [ec, wt_app, wt_app, wt_app, wt_app, hg.wt, hh.wt]
    have := pc.1
    show _ ≤ 5 * (1 + a.size + b.size) + (1 + a.isz + b.isz)
    omega
  · rw [ec]
    have z := Rn_mid (k := 19) ha.rn hb.rn (m := g ++ (c ++ h)) (by simp [pc.2.1]) (fun x m => by
      rcases List.mem_append.mp m with m | m
      · exact hg.nd x m
      · rcases List.mem_append.mp m with m | m
        · exact pc.2.2.2 x m
        · exact hh.nd x m)
    simpa using z
  · rw [ec]
    have := pc.2.2.1
    simp only [List.length_append]
    show _ ≤ 40 * (1 + a.size + b.size)
    omega
theorem ty_three {a b c : Sm} {g1 g2 g3 g4 y z u : L} (h1 : Gp g1) (h2 : Gp g2) (h3 : Gp g3) (h4 : Gp g4) (ha : Tx 2 a y) (hb : Tx 1 b z) (hc : Tx 1 c u) : Ty (.three "choose" a b c) (y ++ (g1 ++ 63 :: (g2 ++ (z ++ (g3 ++ 58 :: (g4 ++ u)))))) := by
  obtain ⟨e, k, w, he, hk⟩ := ha.wr
  obtain ⟨f, m, w2, hf, hm⟩ := hb.wr
  obtain ⟨d, j, w3, hd, hj⟩ := hc.wr
  have eh : (Sm.three "choose" a b c).ht = 1 + max a.ht (max b.ht c.ht) := rfl
  have v1 := ha.wt
  have v2 := hb.wt
  have v3 := hc.wt
  have l1 := ha.len
  have l2 := hb.len
  have l3 := hc.len
  have f1 := h1.few
  have f2 := h2.few
  have f3 := h3.few
  have f4 := h4.few
  refine ⟨⟨_, .three h1.bl h2.bl h3.bl h4.bl w he w2 w3, by omega⟩, ?_, ?_, ?_⟩
  · simp only [wt_app, wt_cons, h1.wt, h2.wt, h3.wt, h4.wt]
    rw [show wc 63 = 1 by decide, show wc 58 = 1 by decide]
    show _ ≤ 5 * (1 + a.size + b.size + c.size) + (1 + a.isz + b.isz + c.isz)
    omega
  · have gap : ∀ {g h : L} {q : Nat}, Gp g → Gp h → q ∉ digC → ∀ x ∈ g ++ q :: h, x ∉ digC := fun hg hh hq x m => by
      rcases List.mem_append.mp m with m | m
      · exact hg.nd x m
      · rcases List.mem_cons.mp m with rfl | m
        · exact hq
        · exact hh.nd x m
    have r2 := Rn_mid (k := 19) hb.rn hc.rn (m := g3 ++ 58 :: g4) (by simp) (gap h3 h4 (by decide))
    have r1 := Rn_mid (k := 19) ha.rn r2 (m := g1 ++ 63 :: g2) (by simp) (gap h1 h2 (by decide))
    simpa using r1
  · simp only [List.length_append, List.length_cons]
    show _ ≤ 40 * (1 + a.size + b.size + c.size)
    omega
abbrev nF : Nat := 221
/-- what the readers ask of a text: it is met by a told text with something around it -/
theorem fit_of {t : Sm} {x : Str} {l : Nat} {p y q : L} (h : Tx l t y) (hh : t.ht ≤ 3) (e : cs x = p ++ (y ++ q)) (hp : p.length ≤ 20) (hq : q.length ≤ 20) (hw : wt p + wt q ≤ 4) : Fit nF x := by
  have s1 := size_ht t
  have s2 := isz_ht t
  have p1 : 3 ^ (t.ht + 1) ≤ 3 ^ 4 := Nat.pow_le_pow_right (by decide) (by omega)
  have p2 : 3 ^ t.ht ≤ 3 ^ 3 := Nat.pow_le_pow_right (by decide) hh
  rw [show 3 ^ 4 = 81 by decide] at p1
  rw [show 3 ^ 3 = 27 by decide] at p2
  have w := h.wt
  have l := h.len
  refine ⟨?_, ?_, ?_⟩
  · rw [len_cs, e, List.length_append, List.length_append]
    omega
  · rw [e]
    intro a b c eq d
    have : ∀ (k m : Nat) (u v : L), Rn k u → Rn m v → Rn (k + m) (u ++ v) := fun k m u v hu hv a b c e d => by
      rcases List.append_eq_append_iff.mp e with ⟨a', e1, e2⟩ | ⟨c', e1, e2⟩
      · exact Nat.le_trans (hv a' b c e2 d) (by omega)
      · rcases List.append_eq_append_iff.mp e2 with ⟨x, e3, e4⟩ | ⟨x, e3, e4⟩
        · exact Nat.le_trans (hu a b x (by rw [e1, e3]) d) (by omega)
        · have h1 := hu a c' [] (by rw [e1, List.append_nil]) fun z m => d z (by rw [e3]; exact List.mem_append_left _ m)
          have h2 := hv [] x c (by rw [e4]; rfl) fun z m => d z (by rw [e3]; exact List.mem_append_right _ m)
          rw [e3, List.length_append]
          omega
    have z := this 20 (19 + 20) p (y ++ q) (Rn_len hp) (this 19 20 y q h.rn (Rn_len hq)) a b c eq d
    omega
  · rw [e, wt_app, wt_app]
    show _ ≤ 221
    omega
end Qb
end PySem
namespace PySem
namespace Qb
open PySem.W PySem.Calls PyProof.Rows L2
/-! # copies; show_sum, refusing too -/
theorem sm_pl : ∀ {t : Sm} {n : Nat}, t.ht ≤ n → Pl (n + 1) t.d := by
  have st : ∀ (n : Nat) (x : Str), Pl n (.str x) := fun n x => by
    cases n with
    | zero => exact .inl ⟨x, rfl⟩
    | succ n => exact .inl (.inl ⟨x, rfl⟩)
  have it : ∀ (n : Nat) (x : Int), Pl n (.int x) := fun n x => by
    cases n with
    | zero => exact .inr (.inr (.inl ⟨x, rfl⟩))
    | succ n => exact .inl (.inr (.inr (.inl ⟨x, rfl⟩)))
  intro t
  induction t with
  | num i => exact fun _ => .inr ⟨_, .inr rfl, by show 2 ≤ 1000; decide, fun e m => by
      rcases List.mem_cons.mp m with rfl | m
      · exact st _ _
      · rw [List.mem_singleton.mp m]; exact it _ _⟩
  | of w => exact fun _ => .inr ⟨_, .inr rfl, by show 2 ≤ 1000; decide, fun e m => by
      rcases List.mem_cons.mp m with rfl | m
      · exact st _ _
      · rw [List.mem_singleton.mp m]; exact st _ _⟩
  | one s a ih =>
    intro n h
    have hh : (Sm.one s a).ht = 1 + a.ht := rfl
    obtain ⟨m, rfl⟩ : ∃ m, n = m + 1 := ⟨n - 1, by omega⟩
    exact .inr ⟨_, .inr rfl, by show 2 ≤ 1000; decide, fun e mm => by
      rcases List.mem_cons.mp mm with rfl | mm
      · exact st _ _
      · rw [List.mem_singleton.mp mm]; exact ih (by omega)⟩
  | two s a b ia ib =>
    intro n h
    have hh : (Sm.two s a b).ht = 1 + max a.ht b.ht := rfl
    obtain ⟨m, rfl⟩ : ∃ m, n = m + 1 := ⟨n - 1, by omega⟩
    exact .inr ⟨_, .inr rfl, by show 3 ≤ 1000; decide, fun e mm => by
      rcases List.mem_cons.mp mm with rfl | mm
      · exact st _ _
      rcases List.mem_cons.mp mm with rfl | mm
      · exact ia (by omega)
      · rw [List.mem_singleton.mp mm]; exact ib (by omega)⟩
  | three s a b c ia ib ic =>
    intro n h
    have hh : (Sm.three s a b c).ht = 1 + max a.ht (max b.ht c.ht) := rfl
    obtain ⟨m, rfl⟩ : ∃ m, n = m + 1 := ⟨n - 1, by omega⟩
    exact .inr ⟨_, .inr rfl, by show 4 ≤ 1000; decide, fun e mm => by
      rcases List.mem_cons.mp mm with rfl | mm
      · exact st _ _
      rcases List.mem_cons.mp mm with rfl | mm
      · exact ia (by omega)
      rcases List.mem_cons.mp mm with rfl | mm
      · exact ib (by omega)
      · rw [List.mem_singleton.mp mm]; exact ic (by omega)⟩
/-- an error of the class at C that holds u is raised -/
def RaisesV (E : XK) (C : Addr) (u : V) (H : Hp) : Prop := ∀ d, H d = none → E (.ref C) (some d) (L2.upd H d (.xd [(("value" : Str), u)]))
def spSx (K : Frag) (CT : Addr) (n : Nat) : Sp := fun vs H Q E => ∃ (v : V) (t : Sm), vs = [v] ∧ Dp K H v t.d ∧ t.ht + 1 ≤ n ∧ t.fine ∧
  ((t.ok = true ∧ t.shw.length ≤ 90000 ∧ t.good ∧ ∀ H', Same H H' → Q (.str (st t.shw)) H') ∨ (t.ok = false ∧ ∀ H' u, Same H H' → Dp K H' u t.d → RaisesV E CT u H'))
section
variable {P : Program} {w : World} {K : Frag} {mg : Str → Option Value} {base : Heap}
abbrev sFr : Stmt := top 33
abbrev nFr : List Str := ["thing", "table", "key", "parts", "part"]
theorem scFr : FnScope nFr ["thing"] (defScope sFr) := ⟨rfl, rfl, rfl, by decide +kernel, rfl, by decide +kernel, by decide +kernel⟩
theorem ok_Fr {f : Addr} {fd : FuncData} (F : Fun K "fresh" "fresh" sFr f fd) (g : mg "fresh" = some (.ref f)) (b : Binds K fd ["thing"] []) (B : Blt mg) : ∀ n, FnOk P w K mg base CX0 (n + 1) f fd ["thing"] (spOw K n)
  | 0 => F.ok scFr (fun vs H Q E h => h.elim) (fun cdv A outer s H vs Q E hr h => h.elim)
  | n + 1 => by
    have GFr := ok_Fr F g b B n
    refine F.ok scFr (fun vs H Q E h => ?_) (fun cdv A outer s H vs Q E hr h => ?_)
    · obtain ⟨v, d, rfl, _⟩ := h
      rfl
    · obtain ⟨v, d, rfl, hv, hp, k⟩ := h
      rcases pl_cases hp with h0 | ⟨m, ds, rfl, h1, h2, h3⟩
      · refine ⟨_, (pss_cons (ps_if (pt_val (pe_callB call_isi (by rfl) B.isi (by decide +kernel) (pa_cons (pv 0) (pa_cons (pe_bltn (v := .ty "dict") (by rfl) B.dict (by decide +kernel) rfl) pa_nil)))) pss_never pss_nil)
          (pss_cons (ps_if (pt_not (pt_val (pe_callB call_isiT (by rfl) B.isi (by decide +kernel) (pa_cons (pv 0) (pa_cons (pe_tup (pa_cons (pe_bltn (v := .ty "list") (by rfl) B.list (by decide +kernel) rfl) (pa_cons (pe_bltn (v := .ty "tuple") (by rfl) B.tuple (by decide +kernel) rfl) pa_nil))) pa_nil))))) (pss_one (ps_ret (pv 0))) pss_nil) pss_never)), ?_⟩
        obtain ⟨hw, t, ht, hn⟩ := pl0_ty h0 hv
        obtain ⟨n1, n2, n3⟩ := flat_no (K := K) hn
        refine ⟨_, rfl, v, .ty "dict", _, .type "dict", false, rfl, .ty _, ht, n3, _, rfl, if_no rfl ?_⟩
        refine ⟨_, rfl, (by decide : 2 ≤ sizeLine), fun T nT => ⟨v, T, _, _, [.type "list", .type "tuple"], false, rfl, upd_same, .cons (.ty _) (.cons (.ty _) .nil), ?_, kan n1 (kan n2 kitAny_nil), _, rfl, if_yes rfl ⟨_, rfl, ?_⟩⟩⟩
        · rcases h0 with ⟨x, rfl⟩ | ⟨x, rfl⟩ | ⟨x, rfl⟩ | rfl <;> cases hv <;> cases ht <;> rename_i z <;> cases z <;> constructor <;> constructor
        · exact k _ v [] (same_upd nT) (ow_same (same_upd nT) hw) fun b m => by cases m
      · rcases h1 with rfl | rfl
        · obtain ⟨a, xs, rfl, hq, all⟩ := dp_lst hv
          have lx := dpLen all
          refine ⟨_, (pss_cons (ps_if (pt_val (pe_callB call_isi (by rfl) B.isi (by decide +kernel) (pa_cons (pv 0) (pa_cons (pe_bltn (v := .ty "dict") (by rfl) B.dict (by decide +kernel) rfl) pa_nil)))) pss_never pss_nil)
            (pss_cons (ps_if (pt_not (pt_val (pe_callB call_isiT (by rfl) B.isi (by decide +kernel) (pa_cons (pv 0) (pa_cons (pe_tup (pa_cons (pe_bltn (v := .ty "list") (by rfl) B.list (by decide +kernel) rfl) (pa_cons (pe_bltn (v := .ty "tuple") (by rfl) B.tuple (by decide +kernel) rfl) pa_nil))) pa_nil))))) pss_never pss_nil)
            (pss_cons (ps_set (i := 3) scFr.nd rfl (.inl rfl) (pe_lst pa_nil))
            (pss_cons (ps_for PassesOwn.never rfl (pi_list (pv 0)) (pg_name (i := 4) scFr.nd rfl (.inl rfl))
              (pss_one (ps_expr (pe_bm PySem.F.plainAttrs_list PySem.F.slot_list_append PySem.F.type_list_append mt_append (pv 3) (pa_cons (pe_call GFr hr rfl g F.kp b .nil pass0 (pa_cons (pv 4) pa_nil)) pa_nil)))))
            (pss_one (ps_ret (pe_ifExp (pt_val (pe_callB call_isi (by rfl) B.isi (by decide +kernel) (pa_cons (pv 0) (pa_cons (pe_bltn (v := .ty "list") (by rfl) B.list (by decide +kernel) rfl) pa_nil)))) (pv 3) pe_never))))))), ?_⟩
          refine ⟨_, rfl, .ref a, .ty "dict", .type "list", .type "dict", false, rfl, .ty _, ty_lst hq, kit_ty (by decide +kernel), _, rfl, if_no rfl ?_⟩
          refine ⟨_, rfl, (by decide : 2 ≤ sizeLine), fun T nT => ?_⟩
          have s1 := same_upd (o := .tup [.ty "list", .ty "tuple"]) nT
          have hq1 := s1.seq hq
          refine ⟨.ref a, T, _, .type "list", [.type "list", .type "tuple"], true, rfl, upd_same, .cons (.ty _) (.cons (.ty _) .nil), ty_lst hq1, kay (kit_ty (by decide +kernel)), _, rfl, if_no rfl ?_⟩
          refine ⟨(by decide : 0 ≤ sizeLine), fun D nD => ?_⟩
          refine ⟨_, rfl, a, rfl, ⟨_, (same_upd nD).seq hq1⟩, for_list (xs := xs) (fun i σ H' => (∃ y, σ = [some (.ref a), none, none, some (.ref D), y]) ∧ OwB K (L2.upd H T (.tup [.ty "list", .ty "tuple"])) H' D (ds.take i)) ⟨⟨_, rfl⟩, OwB.new nD⟩ (fun i σ H' _ e => e.2.base.seq hq1) (fun i x σ H' hx e => ?_) (fun σ H' e => ?_)⟩
          · obtain ⟨⟨y, rfl⟩, e⟩ := e
            obtain ⟨d, hdi, dx⟩ := dpAt' all hx
            obtain ⟨ys0, hy0⟩ := e.there
            refine ⟨_, rfl, .inl ⟨rfl, _, SqL.of hy0⟩, _, rfl, x, d, rfl, dp_same (s1.trans e.base) dx, h3 d (List.mem_of_getElem? hdi), fun H3 u S s3 hu nS => ?_⟩
            obtain ⟨ys, hy, ly, put⟩ := e.put s3
            refine ⟨D, ys, _, rfl, rfl, hy, by rw [ly, List.length_take, sizeLine_eq]; omega, ⟨_, rfl⟩, ?_⟩
            rw [take_snoc hdi]
            exact put u d S hu nS
          · obtain ⟨⟨y, rfl⟩, e⟩ := e
            rw [lx, List.take_length] at e
            refine ⟨_, rfl, .ref a, .ty "list", .type "list", .type "list", true, rfl, .ty _, ty_lst (e.base.seq hq1), kit_ty (by decide +kernel), _, rfl, if_yes rfl ⟨_, rfl, ?_⟩⟩
            have base := e.base
            obtain ⟨n, s0, ys, S, hy, al, nS, nD⟩ := e
            refine k _ _ (D :: S) (s1.trans base) (.lst hy al nD) fun b m => ?_
            rcases List.mem_cons.mp m with rfl | m
            · exact s1.free n
            · exact s1.free (nS b m)
        · obtain ⟨a, xs, rfl, hq, all⟩ := dp_tup hv
          have lx := dpLen all
          refine ⟨_, (pss_cons (ps_if (pt_val (pe_callB call_isi (by rfl) B.isi (by decide +kernel) (pa_cons (pv 0) (pa_cons (pe_bltn (v := .ty "dict") (by rfl) B.dict (by decide +kernel) rfl) pa_nil)))) pss_never pss_nil)
            (pss_cons (ps_if (pt_not (pt_val (pe_callB call_isiT (by rfl) B.isi (by decide +kernel) (pa_cons (pv 0) (pa_cons (pe_tup (pa_cons (pe_bltn (v := .ty "list") (by rfl) B.list (by decide +kernel) rfl) (pa_cons (pe_bltn (v := .ty "tuple") (by rfl) B.tuple (by decide +kernel) rfl) pa_nil))) pa_nil))))) pss_never pss_nil)
            (pss_cons (ps_set (i := 3) scFr.nd rfl (.inl rfl) (pe_lst pa_nil))
            (pss_cons (ps_for PassesOwn.never rfl (pi_tup (pv 0)) (pg_name (i := 4) scFr.nd rfl (.inl rfl))
              (pss_one (ps_expr (pe_bm PySem.F.plainAttrs_list PySem.F.slot_list_append PySem.F.type_list_append mt_append (pv 3) (pa_cons (pe_call GFr hr rfl g F.kp b .nil pass0 (pa_cons (pv 4) pa_nil)) pa_nil)))))
            (pss_one (ps_ret (pe_ifExp (pt_val (pe_callB call_isi (by rfl) B.isi (by decide +kernel) (pa_cons (pv 0) (pa_cons (pe_bltn (v := .ty "list") (by rfl) B.list (by decide +kernel) rfl) pa_nil)))) pe_never (pe_callTy call_tuple_of (by rfl) B.tuple (by decide +kernel) (pa_cons (pv 3) pa_nil))))))))), ?_⟩
          refine ⟨_, rfl, .ref a, .ty "dict", .type "tuple", .type "dict", false, rfl, .ty _, ty_tup hq, kit_ty (by decide +kernel), _, rfl, if_no rfl ?_⟩
          refine ⟨_, rfl, (by decide : 2 ≤ sizeLine), fun T nT => ?_⟩
          have s1 := same_upd (o := .tup [.ty "list", .ty "tuple"]) nT
          have hq1 := sqT_same s1 hq
          refine ⟨.ref a, T, _, .type "tuple", [.type "list", .type "tuple"], true, rfl, upd_same, .cons (.ty _) (.cons (.ty _) .nil), ty_tup hq1, kan (kit_ty (by decide +kernel)) (kay (kit_ty (by decide +kernel))), _, rfl, if_no rfl ?_⟩
          refine ⟨(by decide : 0 ≤ sizeLine), fun D nD => ?_⟩
          refine ⟨_, rfl, a, rfl, ⟨_, sqT_same (same_upd nD) hq1⟩, for_it (walk_tup (xs := xs)) (fun i σ H' => (∃ y, σ = [some (.ref a), none, none, some (.ref D), y]) ∧ OwB K (L2.upd H T (.tup [.ty "list", .ty "tuple"])) H' D (ds.take i)) ⟨⟨_, rfl⟩, OwB.new nD⟩ (fun i σ H' _ e => sqT_same e.2.base hq1) (fun i x σ H' H2 hi e hx => ?_) (fun σ H' e => ?_)⟩
          · obtain ⟨⟨y, rfl⟩, e⟩ := e
            obtain ⟨rfl, hx⟩ := hx
            obtain ⟨d, hdi, dx⟩ := dpAt' all hx
            obtain ⟨ys0, hy0⟩ := e.there
            refine ⟨_, rfl, .inl ⟨rfl, _, SqL.of hy0⟩, _, rfl, x, d, rfl, dp_same (s1.trans e.base) dx, h3 d (List.mem_of_getElem? hdi), fun H3 u S s3 hu nS => ?_⟩
            obtain ⟨ys, hy, ly, put⟩ := e.put s3
            refine ⟨D, ys, _, rfl, rfl, hy, by rw [ly, List.length_take, sizeLine_eq]; omega, ⟨_, rfl⟩, ?_⟩
            rw [take_snoc hdi]
            exact put u d S hu nS
          · obtain ⟨⟨y, rfl⟩, e⟩ := e
            rw [lx, List.take_length] at e
            refine ⟨_, rfl, .ref a, .ty "list", .type "tuple", .type "list", false, rfl, .ty _, ty_tup (sqT_same e.base hq1), kit_ty (by decide +kernel), _, rfl, if_no rfl ⟨_, rfl, ?_⟩⟩
            have base := e.base
            obtain ⟨n, s0, ys, S, hy, al, nS, nD⟩ := e
            refine ⟨D, ys, rfl, .inl ⟨SqL.of hy, fun l hl => ?_⟩⟩
            have s4 := same_upd (o := .tup ys) hl
            exact k _ _ S ((s1.trans base).trans s4) (.tup (SqT.of upd_same) (owAll_same s4 al)) fun b m => s1.free (nS b m)
abbrev sSx : Stmt := top 36
theorem scSx : FnScope nSh ["tree"] (defScope sSx) := ⟨rfl, rfl, rfl, by decide +kernel, rfl, by decide +kernel, by decide +kernel⟩
theorem ok_Sx {f fIs fSt fFr fI CT : Addr} {fd dIs dSt dFr dI : FuncData} {mT : List Value} (EGi : EG K fI) (TT : EC K mg fI "InvalidTree" CT mT) (GIn : FnOk P w K mg base CX0 1 fI dI ["self", "value"] (spInit K)) (bIn : Binds K dI ["self", "value"] [])
    (F : Fun K "show_sum" "show_sum" sSx f fd) {n : Nat} (gIs : mg "is_sum" = some (.ref fIs)) (kIs : PySem.W.keepIn K (.ref fIs) = true) (bIs : Binds K dIs ["tree"] []) (GIs : FnOk P w K mg base CX0 (n + 3) fIs dIs ["tree"] (spIs K n))
    (gFr : mg "fresh" = some (.ref fFr)) (kFr : PySem.W.keepIn K (.ref fFr) = true) (bFr : Binds K dFr ["thing"] []) (GFr : FnOk P w K mg base CX0 (n + 1 + 1) fFr dFr ["thing"] (spOw K (n + 1)))
    (gSt : mg "sum_text" = some (.ref fSt)) (kSt : PySem.W.keepIn K (.ref fSt) = true) (bSt : Binds K dSt ["tree"] []) (GSt : FnOk P w K mg base CX0 (2 * n + 3) fSt dSt ["tree"] (spSt K n)) : FnOk P w K mg base (L2.CX P w) (2 * n + 4) f fd ["tree"] (spSx K CT n) := by
  refine F.okX scSx (fun vs H Q E h => ?_) (fun cdv A outer s H vs Q E hr h => ?_)
  · obtain ⟨v, t, rfl, _⟩ := h
    rfl
  · refine ⟨_, (pss_cons (ps_if (pt_not (pt_val (pe_call GIs (hr.mono (by omega)) rfl gIs kIs bIs .nil pass0 (pa_cons (pv 0) pa_nil)))) (pss_one (ps_raise rfl (takes_of rfl rfl rfl rfl) (pmk_oex TT.oex TT.iC EGi.tI GIn (hr.mono (by omega)) bIn .nil pass0 (by rfl) TT.gC (by exact (pa_cons (pe_call GFr (hr.mono (by omega)) rfl gFr kFr bFr .nil pass0 (pa_cons (pv 0) pa_nil)) pa_nil))))) pss_nil)
        (pss_one (ps_ret (pe_call GSt (hr.mono (by omega)) rfl gSt kSt bSt .nil pass0 (pa_cons (pv 0) pa_nil))))), ?_⟩
    obtain ⟨v, t, rfl, hd, hh, hf, k⟩ := h
    obtain ⟨n', rfl⟩ : ∃ n', n = n' + 1 := ⟨n - 1, by omega⟩
    refine ⟨_, rfl, v, t, rfl, hd, by omega, hf, fun H1 s1 => ⟨_, rfl, ?_⟩⟩
    rcases k with ⟨ho, hl, hg, k⟩ | ⟨ho, k⟩
    · rw [ho]
      refine if_no rfl ⟨_, rfl, v, t, rfl, dp_same s1 hd, by omega, ok_nice ho, hl, hg, fun H2 s2 => k H2 (s1.trans s2)⟩
    · rw [ho]
      refine if_yes rfl ⟨_, rfl, v, t.d, rfl, dp_same s1 hd, sm_pl (by omega), fun H2 u S s2 ow nS => ?_⟩
      refine init_end TT.oex TT.no fun d nd' => ?_
      exact k H2 u (s1.trans s2) (ow_dp ow) d nd'
end
end Qb
end PySem
namespace PySem
namespace Qb
open PySem.W PySem.Calls PyProof.Rows L2
/-! # the law's picks: of a state, or of none -/
abbrev Md := Option (Addr × Addr × Int)
def MdV : Md → V
  | none => .non
  | some m => .ref m.1
def MdI : Md → Hp → Nat → Prop
  | none, _, _ => True
  | some m, H, n => St m.2.2 H m.1 m.2.1 n
def MdU : Md → Hp → Hp
  | none, H => H
  | some m, H => U m.1 m.2.1 H
theorem MdI.same {md : Md} {H H' : Hp} {n : Nat} (h : MdI md H n) (s : Same H H') : MdI md H' n := by
  cases md with
  | none => trivial
  | some m => exact St.same h s
theorem MdI.le {md : Md} {H : Hp} {n k : Nat} (h : MdI md H n) (l : n ≤ k) : MdI md H k := by
  cases md with
  | none => trivial
  | some m => exact St.le h l
theorem MdU.back {md : Md} {H : Hp} : Same (MdU md H) H := by
  cases md with
  | none => exact Same.refl _
  | some m => exact U_back
theorem MdU.same {md : Md} {H H' : Hp} (s : Same H H') : Same (MdU md H) (MdU md H') := by
  cases md with
  | none => exact s
  | some m => exact U_same s
/-- a new thing is put down -/
theorem md_new {md : Md} {H : Hp} {n : Nat} {D : Addr} {o : HO} (h : MdI md H n) (nD : H D = none) : MdI md (L2.upd H D o) n ∧ Same (MdU md H) (MdU md (L2.upd H D o)) ∧ MdU md (L2.upd H D o) D = some o := by
  cases md with
  | none => exact ⟨trivial, same_upd nD, upd_same⟩
  | some m =>
    have z := St.ne h nD
    exact ⟨St.upd h z, U_new nD, U_set upd_same z.1 z.2⟩
def spPk : Sp := fun vs H Q _ => ∃ (md : Md) (k : Int) (m : Nat), vs = [MdV md, .int k] ∧ 0 < k ∧ k ≤ 1000 ∧ MdI md H m ∧ m ≤ 80000 ∧
  ∀ (H' : Hp) (r : Nat), (r : Int) < k → (md = none → r = 0) → MdI md H' (m + 1) → Same (MdU md H) (MdU md H') → Q (.int (r : Nat)) H'
section
variable {P : Program} {w : World} {K : Frag} {mg : Str → Option Value} {base : Heap}
abbrev sPk : Stmt := top 50
abbrev nPk : List Str := ["_law_state_here", "_law_many"]
theorem scPk : FnScope nPk ["_law_state_here", "_law_many"] (defScope sPk) := ⟨rfl, rfl, rfl, by decide +kernel, rfl, by decide +kernel, by decide +kernel⟩
theorem has_Pk {f : Addr} {fd : FuncData} (F : Fun K "_law_pick" "_law_pick" sPk f fd) (g : mg "_law_pick" = some (.ref f)) (hDr : Has P w K mg base 1 "_law_draw" ["_law_state_here", "_law_many"] spDraw) :
    Has P w K mg base 2 "_law_pick" ["_law_state_here", "_law_many"] spPk := by
  obtain ⟨fDr, dDr, gDr, kDr, bDr, GDr⟩ := hDr
  refine has_of F g (F.binds (ps := ["_law_state_here", "_law_many"]) fun _ _ _ _ _ _ us hl => match us, hl with | [_, _], _ => rfl) (F.ok scPk (fun vs H Q E h => ?_) (fun cdv A outer s H vs Q E hr h => ?_))
  · obtain ⟨md, k, m, rfl, _⟩ := h
    rfl
  · refine ⟨_, (pss_cons (ps_if (pt_cmpR op_isN (pv 0) pe_non (nomark _)) (pss_one (ps_ret pe_int)) pss_nil)
        (pss_one (ps_ret (pe_call GDr hr rfl gDr kDr bDr .nil pass0 (pa_cons (pv 0) (pa_cons (pv 1) pa_nil)))))), ?_⟩
    obtain ⟨md, k, m, rfl, h0, h1, T, hm, q⟩ := h
    cases md with
    | none =>
      refine ⟨_, rfl, rfl, _, rfl, ?_⟩
      exact if_yes rfl (q H 0 h0 (fun _ => rfl) trivial (Same.refl _))
    | some p =>
      refine ⟨_, rfl, rfl, _, rfl, ?_⟩
      exact if_no rfl ⟨_, rfl, _, rfl, drw (E := E0) T (by omega) h0 (le30 h1) fun H' r hr2 T2 s2 off => q H' r hr2 (fun z => by cases z) T2 s2⟩
end
end Qb
end PySem
namespace PySem
namespace Qb
open PySem.W PySem.Calls PyProof.Rows L2
/-! # a statement whose ends are joined -/
def tWeak (t : TS) : TS := fun D σ H => ∃ G : L2.St → Hp → Prop, (∀ σ' H', G σ' H' → D.nx σ' H') ∧ t { D with nx := G } σ H
theorem ps_weak {X : Cx} {st : Stmt} {t : TS} (h : PS X st t) : PS X st (tWeak t) := by
  refine ⟨fun pins s σ H D I ⟨G, hG, q⟩ => wpAny_mono (h.run pins s σ H { D with nx := G } I q) (fun fl s1 hs => ?_) fun _ _ y => y⟩
  cases fl with
  | next =>
    obtain ⟨σ1, H1, J, z⟩ := hs
    exact ⟨σ1, H1, J, hG _ _ z⟩
  | brk => exact hs
  | cont => exact hs
  | ret u => exact hs
/-! # the law's text of a sum -/
def spTx (K : Frag) : Nat → Sp
  | 0 => fun _ _ _ _ => False
  | n + 1 => fun vs H Q _ => ∃ (md : Md) (v : V) (t : Sm) (l : Nat) (i : Int) (m : Nat), vs = [MdV md, v, .int i] ∧ i = (l : Int) - 1 ∧ l ≤ 9 ∧ t.ht ≤ n ∧ t.drn ∧ MdI md H m ∧ m + 5 * t.size ≤ 80000 ∧ t.size ≤ 1000 ∧ Dp K (MdU md H) v t.d ∧
    ∀ (H' : Hp) (x : L), MdI md H' (m + 5 * t.size) → Same (MdU md H) (MdU md H') → Tx l t x → (md = none → x = par (decide (t.rank < l)) t.shw) → Q (.str (st x)) H'
def rkKV : List (Key × V) := [(.inr "||", .int 1), (.inr "&&", .int 2), (.inr "==", .int 3), (.inr "!=", .int 3), (.inr "<", .int 4), (.inr "<=", .int 4), (.inr ">", .int 4), (.inr ">=", .int 4), (.inr "+", .int 5), (.inr "-", .int 5)]
theorem rkKV_get {s : Str} (h : isOp s = true) : (valV (mergeK [] rkKV) (Sum.inr s : Key)).getD (.int 6) = .int ((rk s : Nat) - 1 : Int) := by
  obtain ⟨c, m⟩ := op_tpk h
  have key : ∀ p ∈ tpk, (valV (mergeK [] rkKV) (Sum.inr p.1 : Key)).getD (.int 6) = .int ((rk p.1 : Nat) - 1 : Int) := by decide +kernel
  exact key _ m
abbrev gpW : List Str := [" ", "", "  ", "\n"]
theorem gp_of : ∀ g ∈ gpW, Gp (cs g) := by
  have key : ∀ g ∈ gpW, (∀ c ∈ cs g, c ∈ wsC) ∧ (cs g).length ≤ 2 := by decide +kernel
  exact fun g m => ⟨(key g m).1, (key g m).2⟩
abbrev nTx : List Str := ["_law_state_here", "_law_node", "_law_least", "_law_kind", "_law_rank", "_law_gap", "_law_told", "_law_ranks"]
abbrev sTx : Stmt := top 51
theorem scTx : FnScope nTx ["_law_state_here", "_law_node", "_law_least"] (defScope sTx) := ⟨rfl, rfl, rfl, by decide +kernel, rfl, by decide +kernel, by decide +kernel⟩
section
variable {P : Program} {w : World} {K : Frag} {mg : Str → Option Value} {base : Heap}
theorem ok_Tx {f : Addr} {fd : FuncData} (F : Fun K "_law_sum_text" "_law_sum_text" sTx f fd) (gTx : mg "_law_sum_text" = some (.ref f)) (bTx : Binds K fd ["_law_state_here", "_law_node", "_law_least"] []) (B : Blt mg) (hPk : Has P w K mg base 2 "_law_pick" ["_law_state_here", "_law_many"] spPk) :
    ∀ n, FnOk P w K mg base CX0 (n + 3) f fd ["_law_state_here", "_law_node", "_law_least"] (spTx K n)
  | 0 => F.ok scTx (fun vs H Q E h => h.elim) (fun cdv A outer s H vs Q E hr h => h.elim)
  | n + 1 => by
    have GTx := ok_Tx F gTx bTx B hPk n
    have kTx := F.kp
    obtain ⟨fPk, dPk, gPk, kPk, bPk, GPk⟩ := hPk
    refine F.ok scTx (fun vs H Q E h => ?_) (fun cdv A outer s H vs Q E hr h => ?_)
    · obtain ⟨md, v, t, l, i, m, rfl, _⟩ := h
      rfl
    · have hu : (A.deeper (envOfC "_law_sum_text" (defScope sTx) s.heap.objs.size f cdv)).units + 1 < cLine := by
        have := hr.un
        omega
      refine ⟨_, (pss_cons (ps_set (i := 3) scTx.nd rfl (.inl rfl) (pe_ix ix_tup (pv 1) pe_int (fun _ _ => rfl)))
        (pss_cons (ps_set (i := 4) scTx.nd rfl (.inl rfl) pe_int)
        (pss_cons (ps_set (i := 5) scTx.nd rfl (.inl rfl) (pe_ix ix_list (pe_lst (pa_cons pe_str (pa_cons pe_str (pa_cons pe_str (pa_cons pe_str pa_nil))))) (pe_call GPk (hr.mono (by omega)) rfl gPk kPk bPk .nil pass0 (pa_cons (pv 0) (pa_cons pe_int pa_nil))) (fun _ _ => rfl)))
        (pss_cons (ps_weak (ps_if (pt_cmpR op_eq (pv 3) pe_str (nomark _)) (pss_one (ps_set (i := 6) scTx.nd rfl (.inl rfl) (pe_callTy call_str_int (by rfl) B.str (by decide +kernel) (pa_cons (pe_ix ix_tup (pv 1) pe_int (fun _ _ => rfl)) pa_nil)))) (pss_one (ps_if (pt_cmpR op_eq (pv 3) pe_str (nomark _)) (pss_cons (ps_set (i := 6) scTx.nd rfl (.inl rfl) (pe_ix ix_tup (pv 1) pe_int (fun _ _ => rfl)))
            (pss_one (ps_if (pt_cmpR op_in_sign (pe_ix ix_str (pe_ix ix_tup (pv 1) pe_int (fun _ _ => rfl)) pe_int (fun _ _ => rfl)) pe_str (by rfl)) (pss_one (ps_set (i := 6) scTx.nd rfl (.inl rfl) (pe_op op_add_str pe_str (pe_ix ix_tup (pv 1) pe_int (fun _ _ => rfl))))) pss_nil))) (pss_one (ps_if (pt_cmpR op_in_seq (pv 3) (pe_lst (pa_cons pe_str (pa_cons pe_str pa_nil))) (by rfl)) (pss_cons (ps_set (i := 4) scTx.nd rfl (.inl rfl) pe_int)
              (pss_one (ps_set (i := 6) scTx.nd rfl (.inl rfl) (pe_op op_add_str (pe_op op_add_str (pe_ix ix_list (pe_lst (pa_cons pe_str (pa_cons pe_str pa_nil))) (pe_callTy call_int1 (by rfl) B.int (by decide +kernel) (pa_cons (pe_cmpR op_eq (pv 3) pe_str (nomark _)) pa_nil)) (fun _ _ => rfl)) (pe_ix ix_list (pe_lst (pa_cons pe_str (pa_cons pe_str pa_nil))) (pe_call GPk (hr.mono (by omega)) rfl gPk kPk bPk .nil pass0 (pa_cons (pv 0) (pa_cons pe_int pa_nil))) (fun _ _ => rfl))) (pe_call GTx (hr.mono (by omega)) rfl gTx kTx bTx .nil pass0 (pa_cons (pv 0) (pa_cons (pe_ix ix_tup (pv 1) pe_int (fun _ _ => rfl)) (pa_cons pe_int pa_nil)))))))) (pss_one (ps_if (pt_cmpR op_eq (pv 3) pe_str (nomark _)) (pss_cons (ps_set (i := 4) scTx.nd rfl (.inl rfl) pe_int)
                (pss_cons (ps_set (i := 6) scTx.nd rfl (.inl rfl) (pe_op op_add_str (pe_op op_add_str (pe_op op_add_str (pe_op op_add_str (pe_call GTx (hr.mono (by omega)) rfl gTx kTx bTx .nil pass0 (pa_cons (pv 0) (pa_cons (pe_ix ix_tup (pv 1) pe_int (fun _ _ => rfl)) (pa_cons pe_int pa_nil)))) (pv 5)) pe_str) (pv 5)) (pe_call GTx (hr.mono (by omega)) rfl gTx kTx bTx .nil pass0 (pa_cons (pv 0) (pa_cons (pe_ix ix_tup (pv 1) pe_int (fun _ _ => rfl)) (pa_cons pe_int pa_nil))))))
                (pss_one (ps_set (i := 6) scTx.nd rfl (.inl rfl) (pe_op op_add_str (pe_op op_add_str (pe_op op_add_str (pe_op op_add_str (pv 6) (pv 5)) pe_str) (pv 5)) (pe_call GTx (hr.mono (by omega)) rfl gTx kTx bTx .nil pass0 (pa_cons (pv 0) (pa_cons (pe_ix ix_tup (pv 1) pe_int (fun _ _ => rfl)) (pa_cons pe_int pa_nil))))))))) (pss_cons (ps_set (i := 7) scTx.nd rfl (.inl rfl) (pe_disp (L2.pps_cons pe_str pe_int (L2.pps_cons pe_str pe_int (L2.pps_cons pe_str pe_int (L2.pps_cons pe_str pe_int (L2.pps_cons pe_str pe_int (L2.pps_cons pe_str pe_int (L2.pps_cons pe_str pe_int (L2.pps_cons pe_str pe_int (L2.pps_cons pe_str pe_int (L2.pps_cons pe_str pe_int L2.pps_nil)))))))))) (by rfl) (by rfl) (fun z => by cases z) (by decide)))
                (pss_cons (ps_set (i := 4) scTx.nd rfl (.inl rfl) (pe_dget2 hu (pv 7) (pv 3) pe_int ⟨rfl, rfl, rfl, rfl⟩))
                (pss_one (ps_set (i := 6) scTx.nd rfl (.inl rfl) (pe_op op_add_str (pe_op op_add_str (pe_op op_add_str (pe_op op_add_str (pe_call GTx (hr.mono (by omega)) rfl gTx kTx bTx .nil pass0 (pa_cons (pv 0) (pa_cons (pe_ix ix_tup (pv 1) pe_int (fun _ _ => rfl)) (pa_cons (pv 4) pa_nil)))) (pv 5)) (pv 3)) (pv 5)) (pe_call GTx (hr.mono (by omega)) rfl gTx kTx bTx .nil pass0 (pa_cons (pv 0) (pa_cons (pe_ix ix_tup (pv 1) pe_int (fun _ _ => rfl)) (pa_cons (pe_op op_add (pv 4) pe_int) pa_nil)))))))))))))))))
        (pss_cons (ps_weak (ps_if (PW.pt (pw_or (pt_cmpR op_lt (pv 4) (pv 2) (nomark _)) (pw_or1 (pt_cmpR op_eq (pe_call GPk (hr.mono (by omega)) rfl gPk kPk bPk .nil pass0 (pa_cons (pv 0) (pa_cons pe_int pa_nil))) pe_int (nomark _))))) (pss_one (ps_set (i := 6) scTx.nd rfl (.inl rfl) (pe_op op_add_str (pe_op op_add_str pe_str (pv 6)) pe_str))) pss_nil))
        (pss_one (ps_ret (pv 6)))))))), ?_⟩
      obtain ⟨md, v, t, l, i, m, rfl, ei, hl9, hh, hd, T, hm, hz, dv, k⟩ := h
      have dv0 : Dp K H v t.d := dp_same MdU.back dv
      obtain ⟨a, ys, rfl, hq⟩ := dp_kd dv0
      have nice := ok_nice (drn_ok hd).1
      have sz1 : 1 ≤ t.size := by cases t <;> first | exact Nat.le_refl 1 | exact Nat.le_add_right_of_le (Nat.le_add_right 1 _) | exact Nat.le_add_right 1 _ | (show 1 ≤ 1 + _ + _ + _; omega)
      refine ⟨_, rfl, a, _, 0, _, rfl, rfl, hq, at0, ?_⟩
      refine ⟨(by decide : 4 ≤ sizeLine), fun D nD => ?_⟩
      obtain ⟨T1, s1, hD1⟩ := md_new (o := .lst (gpW.map V.str)) T nD
      refine ⟨_, rfl, md, 4, m, rfl, by decide, by decide, T1, by omega, fun H2 r hr4 r0 T2 s2 => ?_⟩
      have hD2 : H2 D = some (.lst (gpW.map V.str)) := MdU.back _ _ (s2 _ _ hD1)
      have s12 := s1.trans s2
      obtain ⟨g, mg0, hg⟩ : ∃ g ∈ gpW, (gpW.map V.str)[r]? = some (.str g) := pick_of gpW (r := r) (by show r < 4; omega)
      have gp := gp_of g mg0
      have gl : md = none → g = " " := fun z => by
        have r00 := r0 z
        subst r00
        exact (V.str.inj (Option.some.inj hg)).symm
      refine ⟨D, _, _, _, rfl, rfl, SqL.of hD2, atI_nat hg, ?_⟩
      refine ⟨fun σ' H' => ∃ (y : L) (m2 : Nat) (z7 : Option V), σ' = [some (MdV md), some (.ref a), some (.int i), some (.str t.kd), some (.int ((t.rank : Int) - 1)), some (.str g), some (.str (st y)), z7] ∧ Ty t y ∧ (md = none → y = t.shw) ∧ MdI md H' m2 ∧ m2 + 1 ≤ m + 5 * t.size ∧ Same (MdU md H) (MdU md H'), ?_, ?_⟩
      · rintro σ' H' ⟨y, m2, z7, rfl, hy, ly, T3, hm2, s3⟩
        have yl := hy.len
        refine ⟨fun σ' H' => ∃ (x : L), σ' = [some (MdV md), some (.ref a), some (.int i), some (.str t.kd), some (.int ((t.rank : Int) - 1)), some (.str g), some (.str (st x)), z7] ∧ MdI md H' (m + 5 * t.size) ∧ Same (MdU md H) (MdU md H') ∧ Tx l t x ∧ (md = none → x = par (decide (t.rank < l)) t.shw), ?_, ?_⟩
        · rintro σ' H' ⟨x, rfl, T4, s4, hx, lx⟩
          exact ⟨_, rfl, k H' x T4 s4 hx lx⟩
        · have brk : ∀ (H4 : Hp), MdI md H4 (m + 5 * t.size) → Same (MdU md H) (MdU md H4) → (md = none → t.rank < l) → ∃ x : L, [some (MdV md), some (V.ref a), some (V.int i), some (V.str t.kd), some (V.int ((t.rank : Int) - 1)), some (V.str g), some (V.str (("(" : Str) ++ st y ++ (")" : Str))), z7] = [some (MdV md), some (.ref a), some (.int i), some (.str t.kd), some (.int ((t.rank : Int) - 1)), some (.str g), some (.str (st x)), z7] ∧ MdI md H4 (m + 5 * t.size) ∧ Same (MdU md H) (MdU md H4) ∧ Tx l t x ∧ (md = none → x = par (decide (t.rank < l)) t.shw) := fun H4 T4 s4 c => by
            refine ⟨40 :: (y ++ [41]), ?_, T4, s4, ty_par hy hl9, fun z => ?_⟩
            · rw [show ("(" : Str) ++ st y ++ (")" : Str) = st (40 :: (y ++ [41])) from str_of (by
                rw [cs_app, cs_app, cs_st, show cs ("(" : Str) = [40] by decide +kernel, show cs (")" : Str) = [41] by decide +kernel]
                rfl)]
            · rw [decide_eq_true (c z), ly z]
              rfl
          refine ⟨_, rfl, _, rfl, _, _, rfl, rfl, _, rfl, if_by (fun e => if_yes rfl ?_) (fun e => ?_)⟩
          · have c : t.rank < l := by
              have := of_decide_eq_true e
              omega
            refine ⟨_, rfl, _, _, rfl, rfl, ?_, _, _, rfl, rfl, ?_, brk H' (T3.le (by omega)) s3 fun _ => c⟩
            · rw [len_st]
              exact line_small (by show 1 + _ ≤ _; omega)
            · rw [len_cs, cs_app, cs_st, List.length_append]
              exact line_small (by show 1 + _ + 1 ≤ _; omega)
          · have c : ¬ t.rank < l := by
              have := of_decide_eq_false e
              omega
            refine ⟨_, rfl, md, 7, m2, rfl, by decide, by decide, T3, by omega, fun H4 q hq7 q0 T4 s4 => ⟨rfl, _, rfl, if_by (fun e2 => ?_) (fun e2 => ?_)⟩⟩
            · refine ⟨_, rfl, _, _, rfl, rfl, ?_, _, _, rfl, rfl, ?_, brk H4 (T4.le (by omega)) (s3.trans s4) fun z => ?_⟩
              · rw [len_st]
                exact line_small (by show 1 + _ ≤ _; omega)
              · rw [len_cs, cs_app, cs_st, List.length_append]
                exact line_small (by show 1 + _ + 1 ≤ _; omega)
              · rw [q0 z] at e2
                exact absurd e2 (show ¬ (decide (V.int ((0 : Nat) : Int) = V.int 6) = true) from by decide +kernel)
            · refine ⟨y, rfl, T4.le (by omega), s3.trans s4, ty_tx hy (by omega), fun z => ?_⟩
              rw [decide_eq_false c, ly z]
              rfl
      · have k2 : ∀ (x y : Str), x = y → decide (V.str x = V.str y) = true := fun x y e => decide_eq_true (by rw [e])
        have k3 : ∀ (x y : Str), x ≠ y → decide (V.str x = V.str y) = false := fun x y e => decide_eq_false fun z => e (V.str.inj z)
        have gl2 : g.length ≤ 2 := by rw [len_cs]; exact gp.few
        -- a part is told
        have kid : ∀ {u : Sm} {x : V} {l' : Nat} {j : Int} {Ha : Hp} {m1 : Nat} {Q' : VK} {E' : XK}, j = (l' : Int) - 1 → l' ≤ 9 → u.ht + 1 ≤ n → u.drn → MdI md Ha m1 → m1 + 5 * u.size ≤ 80000 → u.size ≤ 1000 → Dp K (MdU md Ha) x u.d →
            (∀ (H' : Hp) (y : L), MdI md H' (m1 + 5 * u.size) → Same (MdU md Ha) (MdU md H') → Tx l' u y → (md = none → y = par (decide (u.rank < l')) u.shw) → Q' (.str (st y)) H') → spTx K n ([MdV md, x, .int j] ++ []) Ha Q' E' := by
          intro u x l' j Ha m1 Q' E' e1 e2 e3 e4 e5 e6 e7 e8 q
          obtain ⟨n', rfl⟩ : ∃ n', n = n' + 1 := ⟨n - 1, by omega⟩
          exact ⟨md, x, u, l', j, m1, rfl, e1, e2, by omega, e4, e5, e6, e7, e8, q⟩
        cases t with
        | num c =>
          obtain ⟨a', e1, hq1⟩ := dp_num (dp_same (MdU.back (md := md)) (dp_same s12 dv))
          cases e1
          refine ⟨_, rfl, rfl, _, rfl, if_yes (k2 _ _ rfl) ⟨_, rfl, a, _, 1, _, rfl, rfl, hq1, atI_nat (j := 1) rfl, c, rfl, int_log hd.1 (Int.lt_of_le_of_lt hd.2 (by decide)), ?_⟩⟩
          refine ⟨cs (Str.ofString (toString c)), m + 1, none, ?_, ty_num hd.1 hd.2, fun _ => rfl, T2, by omega, s12⟩
          rw [st_cs]
          rfl
        | of x =>
          obtain ⟨a', e1, hq1⟩ := dp_of (dp_same (MdU.back (md := md)) (dp_same s12 dv))
          cases e1
          have es : (Sm.of x).shw = if isNm (cs x) then cs x else 36 :: cs x := rfl
          have lx : x.length ≤ 5 ∧ x ≠ ("" : Str) := by
            rcases hd with ⟨h1, h2⟩ | h
            · refine ⟨h2, fun z => ?_⟩
              subst z
              revert h1
              decide +kernel
            · exact (by decide +kernel : ∀ w ∈ wPl, w.length ≤ 5 ∧ w ≠ ("" : Str)) x h
          obtain ⟨c, r', hc⟩ : ∃ c r', cs x = c :: r' := by
            cases q : cs x with
            | nil => exact (lx.2 (cs_nil q)).elim
            | cons c r' => exact ⟨c, r', rfl⟩
          refine ⟨_, rfl, rfl, _, rfl, if_no (k3 _ _ (show ("of" : Str) ≠ "number" from by decide +kernel)) ⟨_, rfl, rfl, _, rfl, if_yes (k2 _ _ rfl) ⟨_, rfl, a, _, 1, _, rfl, rfl, hq1, atI_nat (j := 1) rfl, ?_⟩⟩⟩
          refine ⟨_, rfl, a, _, 1, _, rfl, rfl, hq1, atI_nat (j := 1) rfl, x, 0, c, rfl, rfl, line_small (by omega), atI_nat (j := 0) (congrArg (fun l : L => l[0]?) hc), c, ("0123456789#?" : Str), rfl, rfl, _, rfl, ?_⟩
          have hin : (isNm (cs x) = true ∧ decide (c ∈ ("0123456789#?" : Str).cps.toList) = false) ∨ (isNm (cs x) = false ∧ decide (c ∈ ("0123456789#?" : Str).cps.toList) = true) := by
            rcases hd with ⟨h1, h2⟩ | h
            · rw [name_nm] at h1
              refine .inl ⟨h1, decide_eq_false ?_⟩
              obtain ⟨c', r2, e, m', _⟩ := nm_cons h1
              rw [hc] at e
              obtain rfl := (List.cons.inj e).1
              exact (by decide +kernel : ∀ c ∈ staC, c ∉ ("0123456789#?" : Str).cps.toList) c m'
            · have key : ∀ w ∈ wPl, isNm (cs w) = false ∧ ∃ c r, cs w = c :: r ∧ decide (c ∈ ("0123456789#?" : Str).cps.toList) = true := by
                intro w hw
                have hw : w ∈ (["0", "1", "12", "#", "?"] : List Str) := hw
                simp only [List.mem_cons, List.not_mem_nil, or_false] at hw
                rcases hw with rfl | rfl | rfl | rfl | rfl
                · exact ⟨by decide +kernel, 48, [], by decide +kernel, by decide +kernel⟩
                · exact ⟨by decide +kernel, 49, [], by decide +kernel, by decide +kernel⟩
                · exact ⟨by decide +kernel, 49, [50], by decide +kernel, by decide +kernel⟩
                · exact ⟨by decide +kernel, 35, [], by decide +kernel, by decide +kernel⟩
                · exact ⟨by decide +kernel, 63, [], by decide +kernel, by decide +kernel⟩
              obtain ⟨k1, c', r2, e, m'⟩ := key x h
              rw [hc] at e
              obtain rfl := (List.cons.inj e).1
              exact .inr ⟨k1, m'⟩
          have ty := ty_of (w := x) hd
          rcases hin with ⟨h1, h2⟩ | ⟨h1, h2⟩
          · refine if_no h2 ⟨(Sm.of x).shw, m + 1, none, ?_, ty, fun _ => rfl, T2, by omega, s12⟩
            rw [es, h1, if_pos rfl, st_cs]
            rfl
          · refine if_yes h2 ⟨_, rfl, a, _, 1, _, rfl, rfl, hq1, atI_nat (j := 1) rfl, _, _, rfl, rfl, line_small (by show 1 + _ ≤ _; omega), (Sm.of x).shw, m + 1, none, ?_, ty, fun _ => rfl, T2, by omega, s12⟩
            rw [es, h1, if_neg (by decide)]
            rw [show ("$" : Str) ++ x = st (36 :: cs x) from str_of (by
              rw [cs_app, show cs ("$" : Str) = [36] by decide +kernel]
              rfl)]
            rfl
        | one s' a1 =>
          obtain ⟨a', x, e1, hq1, dx⟩ := pc_two (dp_same s12 dv)
          cases e1
          have hs : s' ∉ (["number", "of"] : List Str) ∧ s' ∈ (["minus", "no"] : List Str) := by
            rcases hd.1 with rfl | rfl
            · exact ⟨by decide +kernel, by decide +kernel⟩
            · exact ⟨by decide +kernel, by decide +kernel⟩
          have esz : (Sm.one s' a1).size = 1 + a1.size := rfl
          have eht : (Sm.one s' a1).ht = 1 + a1.ht := rfl
          refine ⟨_, rfl, rfl, _, rfl, if_no (k3 _ _ fun z => hs.1 (by rw [show s' = "number" from z]; decide +kernel)) ⟨_, rfl, rfl, _, rfl, if_no (k3 _ _ fun z => hs.1 (by rw [show s' = "of" from z]; decide +kernel)) ⟨_, rfl, (by decide : 2 ≤ sizeLine), fun T0 nT0 => ?_⟩⟩⟩
          obtain ⟨T3, s3, hT0⟩ := md_new (o := .lst ((["minus", "no"] : List Str).map V.str)) T2 nT0
          refine ⟨T0, (["minus", "no"] : List Str).map V.str, rfl, .inl (SqL.of upd_same), rfl, by decide +kernel, _, rfl, ?_⟩
          dsimp only
          rw [if_neg (by decide : ¬ false = true), inV_iff]
          refine if_yes (decide_eq_true hs.2) ?_
          replace T3 : MdI md (L2.upd H2 T0 (.lst [.str "minus", .str "no"])) (m + 1) := T3
          replace s3 : Same (MdU md H2) (MdU md (L2.upd H2 T0 (.lst [.str "minus", .str "no"]))) := s3
          generalize L2.upd H2 T0 (.lst [.str "minus", .str "no"]) = H3 at T3 s3 ⊢
          refine ⟨(by decide : 2 ≤ sizeLine), fun L1 nL1 => ?_⟩
          obtain ⟨T4, s4, hL1⟩ := md_new (o := .lst [.str "-", .str "!"]) T3 nL1
          generalize L2.upd H3 L1 (.lst [.str "-", .str "!"]) = H4 at T4 s4 hL1 ⊢
          have hL1' := MdU.back _ _ hL1
          refine ⟨_, rfl, rfl, .inr ⟨_, rfl, ?_⟩⟩
          obtain ⟨q0, hq0, eq0⟩ : ∃ q0 : Str, atI [V.str "-", V.str "!"] (if decide (V.str s' = V.str "no") = true then 1 else 0) = some (.str q0) ∧ cs q0 = aheadC s' := by
            rcases hd.1 with rfl | rfl
            · exact ⟨"-", by rw [k3 _ _ (show ("minus" : Str) ≠ "no" from by decide +kernel)]; rfl, by decide +kernel⟩
            · exact ⟨"!", by rw [k2 _ _ rfl]; rfl, by decide +kernel⟩
          refine ⟨L1, _, _, _, rfl, rfl, SqL.of hL1', hq0, ?_⟩
          refine ⟨(by decide : 2 ≤ sizeLine), fun L2' nL2 => ?_⟩
          obtain ⟨T5, s5, hL2⟩ := md_new (o := .lst ((["", " "] : List Str).map V.str)) T4 nL2
          replace T5 : MdI md (L2.upd H4 L2' (.lst [.str "", .str " "])) (m + 1) := T5
          replace s5 : Same (MdU md H4) (MdU md (L2.upd H4 L2' (.lst [.str "", .str " "]))) := s5
          replace hL2 : MdU md (L2.upd H4 L2' (.lst [.str "", .str " "])) L2' = some (.lst ((["", " "] : List Str).map V.str)) := hL2
          generalize L2.upd H4 L2' (.lst [.str "", .str " "]) = H5 at T5 s5 hL2 ⊢
          refine ⟨_, rfl, md, 2, m + 1, rfl, by decide, by decide, T5, by omega, fun H6 r6 hr6 r60 T6 s6 => ?_⟩
          obtain ⟨g2, mg2, hg2⟩ := pick_of (["", " "] : List Str) (r := r6) (by show r6 < 2; omega)
          have gp2 : Gp (cs g2) := ⟨(by decide +kernel : ∀ g ∈ (["", " "] : List Str), ∀ c ∈ cs g, c ∈ wsC) g2 mg2, (by decide +kernel : ∀ g ∈ (["", " "] : List Str), (cs g).length ≤ 2) g2 mg2⟩
          have gl6 : md = none → g2 = "" := fun z => by
            have r00 := r60 z
            subst r00
            exact (V.str.inj (Option.some.inj hg2)).symm
          refine ⟨L2', _, _, _, rfl, rfl, SqL.of (MdU.back _ _ (s6 _ _ hL2)), atI_nat hg2, ?_⟩
          have q0l : q0.length ≤ 1 := by
            rw [len_cs, eq0]
            unfold aheadC
            split <;> decide
          have g2l : g2.length ≤ 2 := by rw [len_cs]; exact gp2.few
          refine ⟨_, _, rfl, rfl, line_small (by omega), ?_⟩
          have sa : Same (MdU md H2) (MdU md H6) := ((s3.trans s4).trans s5).trans s6
          have hq6 := sqT_same (MdU.back (md := md)) (sqT_same sa hq1)
          refine ⟨_, rfl, _, rfl, a, _, 1, _, rfl, rfl, hq6, atI_nat (j := 1) rfl, kid (l' := 8) (m1 := m + 1 + 1) rfl (by decide) (by omega) hd.2 T6 (by omega) (by omega) (dp_same sa dx) fun H7 y T7 s7 hy ly => ?_⟩
          have yl := hy.len
          refine ⟨_, _, rfl, rfl, ?_, aheadC s' ++ (cs g2 ++ y), m + 1 + 1 + 5 * a1.size, none, ?_, ty_one hd.1 gp2 hy, fun z => ?_, T7, by omega, (s12.trans sa).trans s7⟩
          · rw [len_st, len_cs, cs_app, List.length_append, ← len_cs, ← len_cs]
            exact line_small (by omega)
          · rw [show q0 ++ g2 ++ st y = st (aheadC s' ++ (cs g2 ++ y)) from str_of (by rw [cs_app, cs_app, cs_st, eq0, List.append_assoc])]
            rfl
          · rw [gl6 z, ly z]
            rfl
        | two s' a1 b1 =>
          obtain ⟨a', x, y, e1, hq1, dx, dy⟩ := pc_three (dp_same s12 dv)
          cases e1
          obtain ⟨o1, o2, o3⟩ := op_kinds hd.1
          obtain ⟨c, mc⟩ := op_tpk hd.1
          have hk : 2 ≤ rk s' ∧ rk s' ≤ 7 := (tpk_op _ mc).2
          have cl : s'.length ≤ 2 := by
            rw [len_cs]
            exact (by decide +kernel : ∀ p ∈ tpk, (cs p.1).length ≤ 2) _ mc
          have ek : (Sm.two s' a1 b1).kd.length = s'.length := rfl
          have esz : (Sm.two s' a1 b1).size = 1 + a1.size + b1.size := rfl
          have eht : (Sm.two s' a1 b1).ht = 1 + max a1.ht b1.ht := rfl
          refine ⟨_, rfl, rfl, _, rfl, if_no (k3 _ _ fun z => o1 (by rw [show s' = "number" from z]; decide +kernel)) ⟨_, rfl, rfl, _, rfl, if_no (k3 _ _ fun z => o1 (by rw [show s' = "of" from z]; decide +kernel)) ⟨_, rfl, (by decide : 2 ≤ sizeLine), fun T0 nT0 => ?_⟩⟩⟩
          obtain ⟨T3, s3, hT0⟩ := md_new (o := .lst ((["minus", "no"] : List Str).map V.str)) T2 nT0
          refine ⟨T0, (["minus", "no"] : List Str).map V.str, rfl, .inl (SqL.of upd_same), rfl, by decide +kernel, _, rfl, ?_⟩
          dsimp only
          rw [if_neg (by decide : ¬ false = true), inV_iff]
          refine if_no (decide_eq_false o2) ?_
          replace T3 : MdI md (L2.upd H2 T0 (.lst [.str "minus", .str "no"])) (m + 1) := T3
          replace s3 : Same (MdU md H2) (MdU md (L2.upd H2 T0 (.lst [.str "minus", .str "no"]))) := s3
          generalize L2.upd H2 T0 (.lst [.str "minus", .str "no"]) = H3 at T3 s3 ⊢
          refine ⟨_, rfl, rfl, _, rfl, if_no (k3 _ _ o3) ?_⟩
          refine fun D2 nD2 => ⟨upd_same, rkKV, rfl, by decide, ?_⟩
          obtain ⟨T4, s4, hD2⟩ := md_new (o := .dK (mergeK [] rkKV)) T3 nD2
          rw [upd_upd]
          generalize L2.upd H3 D2 (.dK (mergeK [] rkKV)) = H4 at T4 s4 hD2 ⊢
          have hD2' := MdU.back _ _ hD2
          refine ⟨_, rfl, D2, rfl, .inl ⟨_, .inl hD2'⟩, _, rfl, _, DGet.k (k := Sum.inr s') hD2', ?_⟩
          rw [rkKV_get hd.1]
          have sa : Same (MdU md H2) (MdU md H4) := s3.trans s4
          have hq4 := sqT_same (MdU.back (md := md)) (sqT_same sa hq1)
          refine ⟨_, rfl, _, rfl, a, _, 1, _, rfl, rfl, hq4, atI_nat (j := 1) rfl, _, rfl, kid (l' := rk s') (m1 := m + 1) rfl (by omega) (by omega) hd.2.1 T4 (by omega) (by omega) (dp_same sa dx) fun H5 y1 T5 s5 hy1 ly1 => ?_⟩
          have yl1 := hy1.len
          refine ⟨_, rfl, _, _, rfl, rfl, ?_, _, rfl, _, _, rfl, rfl, ?_, _, rfl, _, _, rfl, rfl, ?_, ?_⟩
          · rw [len_st]
            exact line_small (by omega)
          · rw [len_cs, cs_app, cs_st, List.length_append, ← len_cs]
            exact line_small (by omega)
          · rw [len_cs, cs_app, cs_app, cs_st, List.length_append, List.length_append, ← len_cs, ← len_cs]
            exact line_small (by omega)
          have sb : Same (MdU md H2) (MdU md H5) := sa.trans s5
          have hq5 := sqT_same (MdU.back (md := md)) (sqT_same sb hq1)
          refine ⟨_, rfl, _, rfl, a, _, 2, _, rfl, rfl, hq5, atI_nat (j := 2) rfl, _, rfl, _, _, rfl, rfl, kid (l' := rk s' + 1) (m1 := m + 1 + 5 * a1.size) (by omega) (by omega) (by omega) hd.2.2 T5 (by omega) (by omega) (dp_same sb dy) fun H6 y2 T6 s6 hy2 ly2 => ?_⟩
          have yl2 := hy2.len
          refine ⟨_, _, rfl, rfl, ?_, y1 ++ (cs g ++ (cs s' ++ (cs g ++ y2))), m + 1 + 5 * a1.size + 5 * b1.size, some (.ref D2), ?_, ty_two hd.1 gp gp hy1 hy2, fun z => ?_, T6, by omega, (s12.trans sb).trans s6⟩
          · rw [len_st, len_cs, cs_app, cs_app, cs_app, cs_st, List.length_append, List.length_append, List.length_append, ← len_cs, ← len_cs]
            exact line_small (by omega)
          · rw [show st y1 ++ g ++ (Sm.two s' a1 b1).kd ++ g ++ st y2 = st (y1 ++ (cs g ++ (cs s' ++ (cs g ++ y2)))) from str_of (by rw [show (Sm.two s' a1 b1).kd = s' from rfl, cs_app, cs_app, cs_app, cs_app, cs_st, cs_st]; simp)]
            rfl
          · rw [gl z, ly1 z, ly2 z]
            rfl
        | three s' a1 b1 c1 =>
          obtain ⟨a', x, y, z, e1, hq1, dx, dy, dz⟩ := pc_four (dp_same s12 dv)
          cases e1
          obtain ⟨rfl, da, db, dc⟩ := hd
          have esz : (Sm.three "choose" a1 b1 c1).size = 1 + a1.size + b1.size + c1.size := rfl
          have eht : (Sm.three "choose" a1 b1 c1).ht = 1 + max a1.ht (max b1.ht c1.ht) := rfl
          refine ⟨_, rfl, rfl, _, rfl, if_no (k3 _ _ (show ("choose" : Str) ≠ "number" from by decide +kernel)) ⟨_, rfl, rfl, _, rfl, if_no (k3 _ _ (show ("choose" : Str) ≠ "of" from by decide +kernel)) ⟨_, rfl, (by decide : 2 ≤ sizeLine), fun T0 nT0 => ?_⟩⟩⟩
          obtain ⟨T3, s3, hT0⟩ := md_new (o := .lst ((["minus", "no"] : List Str).map V.str)) T2 nT0
          refine ⟨T0, (["minus", "no"] : List Str).map V.str, rfl, .inl (SqL.of upd_same), rfl, by decide +kernel, _, rfl, ?_⟩
          dsimp only
          rw [if_neg (by decide : ¬ false = true), inV_iff]
          refine if_no (show decide (("choose" : Str) ∈ (["minus", "no"] : List Str)) = false by decide +kernel) ?_
          replace T3 : MdI md (L2.upd H2 T0 (.lst [.str "minus", .str "no"])) (m + 1) := T3
          replace s3 : Same (MdU md H2) (MdU md (L2.upd H2 T0 (.lst [.str "minus", .str "no"]))) := s3
          generalize L2.upd H2 T0 (.lst [.str "minus", .str "no"]) = H3 at T3 s3 ⊢
          refine ⟨_, rfl, rfl, _, rfl, if_yes (k2 _ _ rfl) ?_⟩
          have hq3 := sqT_same (MdU.back (md := md)) (sqT_same s3 hq1)
          refine ⟨_, rfl, _, rfl, a, _, 1, _, rfl, rfl, hq3, atI_nat (j := 1) rfl, kid (l' := 2) (m1 := m + 1) rfl (by decide) (by omega) da T3 (by omega) (by omega) (dp_same s3 dx) fun H5 y1 T5 s5 hy1 ly1 => ?_⟩
          have yl1 := hy1.len
          have a63 : cs ("?" : Str) = [63] := by decide +kernel
          have a58 : cs (":" : Str) = [58] := by decide +kernel
          refine ⟨_, rfl, _, _, rfl, rfl, ?_, _, _, rfl, rfl, ?_, _, rfl, _, _, rfl, rfl, ?_, ?_⟩
          · rw [len_st]
            exact line_small (by omega)
          · rw [len_cs, cs_app, cs_st, List.length_append, ← len_cs]
            exact line_small (by show _ + 1 ≤ _; omega)
          · rw [len_cs, cs_app, cs_app, cs_st, List.length_append, List.length_append, ← len_cs, a63]
            exact line_small (by show _ + 1 + _ ≤ _; omega)
          have sb : Same (MdU md H2) (MdU md H5) := s3.trans s5
          have hq5 := sqT_same (MdU.back (md := md)) (sqT_same sb hq1)
          refine ⟨_, rfl, _, rfl, a, _, 2, _, rfl, rfl, hq5, atI_nat (j := 2) rfl, kid (l' := 1) (m1 := m + 1 + 5 * a1.size) rfl (by decide) (by omega) db T5 (by omega) (by omega) (dp_same sb dy) fun H6 y2 T6 s6 hy2 ly2 => ?_⟩
          have yl2 := hy2.len
          refine ⟨_, _, rfl, rfl, ?_, ?_⟩
          · rw [len_st, len_cs, cs_app, cs_app, cs_app, cs_st, List.length_append, List.length_append, List.length_append, ← len_cs, a63]
            exact line_small (by show _ + 1 + _ + _ ≤ _; omega)
          rw [show st y1 ++ g ++ ("?" : Str) ++ g ++ st y2 = st (y1 ++ (cs g ++ 63 :: (cs g ++ y2))) from str_of (by rw [cs_app, cs_app, cs_app, cs_app, cs_st, cs_st, a63]; simp)]
          have lw : (y1 ++ (cs g ++ 63 :: (cs g ++ y2))).length ≤ y1.length + y2.length + 5 := by
            simp only [List.length_append, List.length_cons]
            rw [← len_cs]
            omega
          generalize ew : y1 ++ (cs g ++ 63 :: (cs g ++ y2)) = W at lw
          refine ⟨_, rfl, _, rfl, _, _, rfl, rfl, ?_, _, _, rfl, rfl, ?_, _, rfl, _, _, rfl, rfl, ?_, ?_⟩
          · rw [len_st]
            exact line_small (by omega)
          · rw [len_cs, cs_app, cs_st, List.length_append, ← len_cs]
            exact line_small (by show _ + 1 ≤ _; omega)
          · rw [len_cs, cs_app, cs_app, cs_st, List.length_append, List.length_append, ← len_cs, a58]
            exact line_small (by show _ + 1 + _ ≤ _; omega)
          have sc : Same (MdU md H2) (MdU md H6) := sb.trans s6
          have hq6 := sqT_same (MdU.back (md := md)) (sqT_same sc hq1)
          refine ⟨_, rfl, _, rfl, a, _, 3, _, rfl, rfl, hq6, atI_nat (j := 3) rfl, kid (l' := 1) (m1 := m + 1 + 5 * a1.size + 5 * b1.size) rfl (by decide) (by omega) dc T6 (by omega) (by omega) (dp_same sc dz) fun H7 y3 T7 s7 hy3 ly3 => ?_⟩
          have yl3 := hy3.len
          refine ⟨_, _, rfl, rfl, ?_, y1 ++ (cs g ++ 63 :: (cs g ++ (y2 ++ (cs g ++ 58 :: (cs g ++ y3))))), m + 1 + 5 * a1.size + 5 * b1.size + 5 * c1.size, none, ?_, ty_three gp gp gp gp hy1 hy2 hy3, fun z => ?_, T7, by omega, (s12.trans sc).trans s7⟩
          · rw [len_st, len_cs, cs_app, cs_app, cs_app, cs_st, List.length_append, List.length_append, List.length_append, ← len_cs, a58]
            exact line_small (by show _ + 1 + _ + _ ≤ _; omega)
          · rw [show st W ++ g ++ (":" : Str) ++ g ++ st y3 = st (y1 ++ (cs g ++ 63 :: (cs g ++ (y2 ++ (cs g ++ 58 :: (cs g ++ y3)))))) from str_of (by rw [cs_app, cs_app, cs_app, cs_app, cs_st, cs_st, a58, ← ew]; simp)]
            rfl
          · have nb : decide (b1.rank < 1) = false := by
              have := rank_ge (ok_nice (drn_ok db).1)
              exact decide_eq_false (by omega)
            have ly2' := ly2 z
            rw [nb] at ly2'
            rw [gl z, ly1 z, ly2', ly3 z]
            rfl
end
end Qb
end PySem
namespace PySem
namespace Qb
open PySem.W PySem.Calls PyProof.Rows L2
/-! # spoilt texts -/
def SpW (x y : Str) : Prop := (∃ w ∈ bhW, y = x ++ w) ∨ (∃ w ∈ ahW, y = w ++ x) ∨ y = "" ∨ y = " "
def spSp : Sp := fun vs H Q _ => ∃ (S R : Addr) (m : Nat) (bu : Int) (x : Str), vs = [.ref S, .str x] ∧ x.length ≤ 80000 ∧ St bu H S R m ∧ m ≤ 80000 ∧
  ∀ H' y, St bu H' S R (m + 1) → Same (U S R H) (U S R H') → SpW x y → Q (.str y) H'
section
variable {P : Program} {w : World} {K : Frag} {mg : Str → Option Value} {base : Heap}
abbrev sSp : Stmt := top 52
abbrev nSp : List Str := ["_law_state_here", "_law_told", "_law_behind", "_law_ahead", "_law_pick_here"]
theorem scSp : FnScope nSp ["_law_state_here", "_law_told"] (defScope sSp) := ⟨rfl, rfl, rfl, by decide +kernel, rfl, by decide +kernel, by decide +kernel⟩
theorem has_Sp {f : Addr} {fd : FuncData}  (F : Fun K "_law_spoilt" "_law_spoilt" sSp f fd) (g : mg "_law_spoilt" = some (.ref f)) (B : Blt mg) (hDr : Has P w K mg base 1 "_law_draw" ["_law_state_here", "_law_many"] spDraw) :
    Has P w K mg base 2 "_law_spoilt" ["_law_state_here", "_law_told"] spSp := by
  obtain ⟨fDr, dDr, gDr, kDr, bDr, GDr⟩ := hDr
  refine has_of F g (F.binds (ps := ["_law_state_here", "_law_told"]) fun _ _ _ _ _ _ us hl => match us, hl with | [_, _], _ => rfl) (F.ok scSp (fun vs H Q E h => ?_) (fun cdv A outer s H vs Q E hr h => ?_))
  · obtain ⟨S, R, m, bu, x, rfl, _⟩ := h
    rfl
  · refine ⟨_, (pss_cons (ps_set (i := 2) scSp.nd rfl (.inl rfl) (pe_lst (pa_cons pe_str (pa_cons pe_str (pa_cons pe_str (pa_cons pe_str (pa_cons pe_str (pa_cons pe_str (pa_cons pe_str (pa_cons pe_str (pa_cons pe_str (pa_cons pe_str (pa_cons pe_str (pa_cons pe_str (pa_cons pe_str pa_nil)))))))))))))))
        (pss_cons (ps_set (i := 3) scSp.nd rfl (.inl rfl) (pe_lst (pa_cons pe_str (pa_cons pe_str (pa_cons pe_str (pa_cons pe_str (pa_cons pe_str (pa_cons pe_str (pa_cons pe_str (pa_cons pe_str (pa_cons pe_str (pa_cons pe_str (pa_cons pe_str pa_nil)))))))))))))
        (pss_cons (ps_set (i := 4) scSp.nd rfl (.inl rfl) (pe_call GDr hr rfl gDr kDr bDr .nil pass0 (pa_cons (pv 0) (pa_cons (pe_op op_add (pe_op op_add (pe_callB call_len_seq (by rfl) B.len PySem.boot_len (pa_cons (pv 2) pa_nil)) (pe_callB call_len_seq (by rfl) B.len PySem.boot_len (pa_cons (pv 3) pa_nil))) pe_int) pa_nil))))
        (pss_cons (ps_if (pt_cmpR op_ge (pv 4) (pe_op op_add (pe_callB call_len_seq (by rfl) B.len PySem.boot_len (pa_cons (pv 2) pa_nil)) (pe_callB call_len_seq (by rfl) B.len PySem.boot_len (pa_cons (pv 3) pa_nil))) (nomark _)) (pss_one (ps_ret (pe_ix ix_list (pe_lst (pa_cons pe_str (pa_cons pe_str pa_nil))) (pe_op op_sub (pe_op op_sub (pv 4) (pe_callB call_len_seq (by rfl) B.len PySem.boot_len (pa_cons (pv 2) pa_nil))) (pe_callB call_len_seq (by rfl) B.len PySem.boot_len (pa_cons (pv 3) pa_nil))) (fun _ _ => rfl)))) pss_nil)
        (pss_cons (ps_if (pt_cmpR op_lt (pv 4) (pe_callB call_len_seq (by rfl) B.len PySem.boot_len (pa_cons (pv 2) pa_nil)) (nomark _)) (pss_one (ps_ret (pe_op op_add_str (pv 1) (pe_ix ix_list (pv 2) (pv 4) (fun _ _ => rfl))))) pss_nil)
        (pss_one (ps_ret (pe_op op_add_str (pe_ix ix_list (pv 3) (pe_op op_sub (pv 4) (pe_callB call_len_seq (by rfl) B.len PySem.boot_len (pa_cons (pv 2) pa_nil))) (fun _ _ => rfl)) (pv 1))))))))), ?_⟩
    obtain ⟨S, R, m, bu, x, rfl, lx, T, hm, k⟩ := h
    refine ⟨(by decide : 13 ≤ sizeLine), fun D nD => ?_⟩
    have T1 := T.upd (o := .lst (bhW.map V.str)) (T.ne nD)
    have s1 := U_new (S := S) (R := R) (o := .lst (bhW.map V.str)) nD
    have hD1 : (L2.upd H D (.lst (bhW.map V.str))) D = some (.lst (bhW.map V.str)) := upd_same
    have nDs := T.ne nD
    replace T1 : St bu (L2.upd H D (.lst (bhW.map V.str))) S R m := T1
    refine ⟨(by decide : 11 ≤ sizeLine), fun D2 nD2 => ?_⟩
    replace nD2 : (L2.upd H D (.lst (bhW.map V.str))) D2 = none := nD2
    have T2 := T1.upd (o := .lst (ahW.map V.str)) (T1.ne nD2)
    have s2 := U_new (S := S) (R := R) (o := .lst (ahW.map V.str)) nD2
    have nD2s := T1.ne nD2
    have neD : D ≠ D2 := fun z => by rw [← z, hD1] at nD2; cases nD2
    have hD2 : (L2.upd (L2.upd H D (.lst (bhW.map V.str))) D2 (.lst (ahW.map V.str))) D2 = some (.lst (ahW.map V.str)) := upd_same
    have hD12 : (L2.upd (L2.upd H D (.lst (bhW.map V.str))) D2 (.lst (ahW.map V.str))) D = some (.lst (bhW.map V.str)) := by rw [upd_ne neD]; exact hD1
    refine ⟨_, rfl, _, rfl, D, _, rfl, .inl (SqL.of hD12), _, rfl, D2, _, rfl, .inl (SqL.of hD2), _, _, rfl, rfl, _, _, rfl, rfl, ?_⟩
    have l13 : (bhW.map V.str).length = 13 := rfl
    have l11 : (ahW.map V.str).length = 11 := rfl
    dsimp only [tNil]
    refine drw (E := E0) (k := (((bhW.map V.str).length : Nat) : Int) + (((ahW.map V.str).length : Nat) : Int) + 2) T2 (by omega) (by omega) (by rw [l13, l11]; decide) fun H3 r hr3 T3 s3 off => ?_
    rw [l13, l11] at hr3
    have hE1 : H3 D = some (.lst (bhW.map V.str)) := by rw [off D nDs.1 nDs.2]; exact hD12
    have hE2 : H3 D2 = some (.lst (ahW.map V.str)) := by rw [off D2 nD2s.1 nD2s.2]; exact hD2
    have s123 := (s1.trans s2).trans s3
    refine ⟨_, rfl, _, rfl, D, _, rfl, .inl (SqL.of hE1), _, rfl, D2, _, rfl, .inl (SqL.of hE2), _, _, rfl, rfl, _, _, rfl, rfl, _, rfl, if_by (fun e => ?_) (fun e => ?_)⟩
    · have hlt : 24 ≤ r := by
        have z := of_decide_eq_true e
        rw [l13, l11] at z
        omega
      refine ⟨(by decide : 2 ≤ sizeLine), fun D3 nD3 => ?_⟩
      have nE1 : D ≠ D3 := fun z => by rw [← z, hE1] at nD3; cases nD3
      have nE2 : D2 ≠ D3 := fun z => by rw [← z, hE2] at nD3; cases nD3
      have hF1 : (L2.upd H3 D3 (.lst ((["", " "] : List Str).map V.str))) D = some (.lst (bhW.map V.str)) := by rw [upd_ne nE1]; exact hE1
      have hF2 : (L2.upd H3 D3 (.lst ((["", " "] : List Str).map V.str))) D2 = some (.lst (ahW.map V.str)) := by rw [upd_ne nE2]; exact hE2
      have T4 := T3.upd (o := .lst ((["", " "] : List Str).map V.str)) (T3.ne nD3)
      have s4 := U_new (S := S) (R := R) (o := .lst ((["", " "] : List Str).map V.str)) nD3
      obtain ⟨y, my, hy⟩ := pick_of (["", " "] : List Str) (r := r - 24) (by show r - 24 < 2; omega)
      refine ⟨_, rfl, _, rfl, D, _, rfl, .inl (SqL.of hF1), _, _, rfl, rfl, _, rfl, D2, _, rfl, .inl (SqL.of hF2), _, _, rfl, rfl, D3, _, _, _, rfl, rfl, SqL.of upd_same, ?_, k _ y T4 (s123.trans s4) ?_⟩
      · show atI ((["", " "] : List Str).map V.str) ((r : Int) - 13 - 11) = _
        rw [show (r : Int) - 13 - 11 = ((r - 24 : Nat) : Int) by omega]
        exact atI_nat hy
      · rcases List.mem_cons.mp my with rfl | my
        · exact .inr (.inr (.inl rfl))
        · exact .inr (.inr (.inr (List.mem_singleton.mp my)))
    · have hlt : r < 24 := by
        have z := of_decide_eq_false e
        rw [l13, l11] at z
        omega
      refine ⟨_, rfl, _, rfl, D, _, rfl, .inl (SqL.of hE1), _, _, rfl, rfl, _, rfl, if_by (fun e2 => ?_) (fun e2 => ?_)⟩
      · have h13 : r < 13 := by
          have z := of_decide_eq_true e2
          rw [l13] at z
          omega
        obtain ⟨y, my, hy⟩ := pick_of bhW (r := r) h13
        have ly : y.length ≤ 20 := (by decide +kernel : ∀ w ∈ bhW, w.length ≤ 20) y my
        refine ⟨_, rfl, _, rfl, _, rfl, D, _, _, _, rfl, rfl, SqL.of hE1, atI_nat hy, _, _, rfl, rfl, line_small (by omega), k _ _ T3 s123 (.inl ⟨y, my, rfl⟩)⟩
      · have h13 : 13 ≤ r := by
          have z := of_decide_eq_false e2
          rw [l13] at z
          omega
        obtain ⟨y, my, hy⟩ := pick_of ahW (r := r - 13) (by show r - 13 < 11; omega)
        have ly : y.length ≤ 20 := (by decide +kernel : ∀ w ∈ ahW, w.length ≤ 20) y my
        refine ⟨_, rfl, _, rfl, _, rfl, D, _, rfl, .inl (SqL.of hE1), _, _, rfl, rfl, D2, _, _, _, rfl, rfl, SqL.of hE2, ?_, _, rfl, _, _, rfl, rfl, line_small (by omega), k _ _ T3 s123 (.inr (.inl ⟨y, my, rfl⟩))⟩
        show atI (ahW.map V.str) ((r : Int) - 13) = _
        rw [show (r : Int) - 13 = ((r - 13 : Nat) : Int) by omega]
        exact atI_nat hy
end
end Qb
end PySem
namespace PySem
namespace Qb
open PySem.W PySem.Calls PyProof.Rows L2
/-! # data that can be shown -/
structure Rp (n m : Nat) (d : PyData) : Prop where
  sh : Sh n d
  sw : d.showable = true
  nd : d.hasDict = false
  len : (cs d.shown).length ≤ m
theorem Rp.mono {n m n' m' : Nat} {d : PyData} (h : Rp n m d) (a : n ≤ n') (b : m ≤ m') : Rp n' m' d := ⟨sh_mono h.sh a, h.sw, h.nd, Nat.le_trans h.len b⟩
theorem Rp.wd {K : Frag} {H : Hp} {v : V} {n m : Nat} {d : PyData} (h : Rp n m d) (hd : Dp K H v d) (a : n ≤ 60) (b : m ≤ 100000) : Wd K H v d :=
  ⟨hd, sh_ok h.sh (by omega), h.sw, h.nd, by rw [len_cs]; exact line_small (Nat.le_trans h.len b)⟩
theorem rp_str {x : Str} (h : PyData.strOk x = true) (l : (cs (reprText x)).length ≤ 30) : Rp 0 30 (.str x) :=
  ⟨sh_str h, PyData.showable.eq_3 x, rfl, by rw [PyData.shown.eq_4]; exact l⟩
theorem rp_two {n m1 m2 : Nat} {d e : PyData} (a : Rp n m1 d) (b : Rp n m2 e) : Rp (n + 1) (m1 + m2 + 4) (.tuple [d, e]) := by
  refine ⟨sh_tup fun x m => ?_, ?_, ?_, ?_⟩
  · rcases List.mem_cons.mp m with rfl | m
    · exact a.sh
    · rw [List.mem_singleton.mp m]; exact b.sh
  · rw [PyData.showable.eq_6, PyData.showableAll.eq_2, PyData.showableAll.eq_2, PyData.showableAll.eq_1, a.sw, b.sw]
    rfl
  · show (d.hasDict || (e.hasDict || false)) = false
    rw [a.nd, b.nd]
    rfl
  · rw [PyData.shown.eq_6, PyData.shownAll.eq_2, PyData.shownAll.eq_2, PyData.shownAll.eq_1, tup_cs]
    have h1 : (TL.tl d.shown).length ≤ m1 := a.len
    have h2 : (TL.tl e.shown).length ≤ m2 := b.len
    show (40 :: ((TL.tl d.shown ++ ([44, 32] ++ TL.tl e.shown)) ++ [41])).length ≤ _
    simp only [List.length_cons, List.length_append, List.length_nil]
    omega
theorem rp_three {n m1 m2 m3 : Nat} {d e f : PyData} (a : Rp n m1 d) (b : Rp n m2 e) (c : Rp n m3 f) : Rp (n + 1) (m1 + m2 + m3 + 6) (.tuple [d, e, f]) := by
  refine ⟨sh_tup fun x m => ?_, ?_, ?_, ?_⟩
  · rcases List.mem_cons.mp m with rfl | m
    · exact a.sh
    rcases List.mem_cons.mp m with rfl | m
    · exact b.sh
    · rw [List.mem_singleton.mp m]; exact c.sh
  · rw [PyData.showable.eq_6, PyData.showableAll.eq_2, PyData.showableAll.eq_2, PyData.showableAll.eq_2, PyData.showableAll.eq_1, a.sw, b.sw, c.sw]
    rfl
  · show (d.hasDict || (e.hasDict || (f.hasDict || false))) = false
    rw [a.nd, b.nd, c.nd]
    rfl
  · rw [PyData.shown.eq_6, PyData.shownAll.eq_2, PyData.shownAll.eq_2, PyData.shownAll.eq_2, PyData.shownAll.eq_1, tup_cs]
    have h1 : (TL.tl d.shown).length ≤ m1 := a.len
    have h2 : (TL.tl e.shown).length ≤ m2 := b.len
    have h3 : (TL.tl f.shown).length ≤ m3 := c.len
    show (40 :: ((TL.tl d.shown ++ ([44, 32] ++ (TL.tl e.shown ++ ([44, 32] ++ TL.tl f.shown)))) ++ [41])).length ≤ _
    simp only [List.length_cons, List.length_append, List.length_nil]
    omega
theorem rp_four {n m1 m2 m3 m4 : Nat} {d e f g : PyData} (a : Rp n m1 d) (b : Rp n m2 e) (c : Rp n m3 f) (k : Rp n m4 g) : Rp (n + 1) (m1 + m2 + m3 + m4 + 8) (.tuple [d, e, f, g]) := by
  refine ⟨sh_tup fun x m => ?_, ?_, ?_, ?_⟩
  · rcases List.mem_cons.mp m with rfl | m
    · exact a.sh
    rcases List.mem_cons.mp m with rfl | m
    · exact b.sh
    rcases List.mem_cons.mp m with rfl | m
    · exact c.sh
    · rw [List.mem_singleton.mp m]; exact k.sh
  · rw [PyData.showable.eq_6, PyData.showableAll.eq_2, PyData.showableAll.eq_2, PyData.showableAll.eq_2, PyData.showableAll.eq_2, PyData.showableAll.eq_1, a.sw, b.sw, c.sw, k.sw]
    rfl
  · show (d.hasDict || (e.hasDict || (f.hasDict || (g.hasDict || false)))) = false
    rw [a.nd, b.nd, c.nd, k.nd]
    rfl
  · rw [PyData.shown.eq_6, PyData.shownAll.eq_2, PyData.shownAll.eq_2, PyData.shownAll.eq_2, PyData.shownAll.eq_2, PyData.shownAll.eq_1, tup_cs]
    have h1 : (TL.tl d.shown).length ≤ m1 := a.len
    have h2 : (TL.tl e.shown).length ≤ m2 := b.len
    have h3 : (TL.tl f.shown).length ≤ m3 := c.len
    have h4 : (TL.tl g.shown).length ≤ m4 := k.len
    show (40 :: ((TL.tl d.shown ++ ([44, 32] ++ (TL.tl e.shown ++ ([44, 32] ++ (TL.tl f.shown ++ ([44, 32] ++ TL.tl g.shown)))))) ++ [41])).length ≤ _
    simp only [List.length_cons, List.length_append, List.length_nil]
    omega
theorem drn_rl : ∀ {t : Sm}, t.drn → t.rl ≤ 40 * t.size
  | .num n, h => by
    obtain ⟨k, rfl⟩ : ∃ k : Nat, n = k := ⟨n.toNat, (Int.toNat_of_nonneg h.1).symm⟩
    have := len_str_int (n := k) (k := 19) (by have : (k : Int) < 10 ^ 19 := Int.lt_of_le_of_lt h.2 (by decide); exact_mod_cast this) (by decide)
    show 12 + (toString (k : Int)).length ≤ 40 * 1
    omega
  | .of w, h => by
    have : w.length ≤ 5 := by
      rcases h with h | h
      · exact h.2
      · exact (by decide +kernel : ∀ w ∈ wPl, w.length ≤ 5) w h
    show 10 + w.length ≤ 40 * 1
    omega
  | .one _ a, h => by
    have := drn_rl h.2
    show 11 + a.rl ≤ 40 * (1 + a.size)
    omega
  | .two _ a b, h => by
    have := drn_rl h.2.1
    have := drn_rl h.2.2
    show 10 + a.rl + b.rl ≤ 40 * (1 + a.size + b.size)
    omega
  | .three _ a b c, h => by
    have := drn_rl h.2.1
    have := drn_rl h.2.2.1
    have := drn_rl h.2.2.2
    show 16 + a.rl + b.rl + c.rl ≤ 40 * (1 + a.size + b.size + c.size)
    omega
theorem rp_drn {t : Sm} (h : t.drn) : Rp (t.ht + 1) (40 * t.size) t.d := by
  have g := (drn_ok h).2.2
  exact ⟨sh_tree g, (showable_tree g).1, (showable_tree g).2, by rw [shown_rp g]; exact Nat.le_trans (rp_len g) (drn_rl h)⟩
/-- what is no sum -/
abbrev odds : List Sm := [.num (-1), .of "@", .of "1a", .one "zip" (.num 1), .of ""]
structure Odd (o : Sm) : Prop where
  ok : o.ok = false
  fine : o.fine
  ht : o.ht ≤ 1
  rp : Rp 2 100 o.d
theorem rp_of {w : Str} (h : PyData.strOk w = true) (l : (cs (reprText w)).length ≤ 30) : Rp 1 64 (Sm.of w).d := rp_two (rp_str (by decide +kernel) (by decide +kernel)) (rp_str h l)
theorem rp_num {i : Int} (h : i.natAbs.log2 < 1920) (l : (cs (Str.ofString (toString i))).length ≤ 30) : Rp 1 64 (Sm.num i).d :=
  rp_two ((rp_str (x := "number") (by decide +kernel) (by decide +kernel))) ⟨sh_int i, by rw [PyData.showable.eq_4]; exact decide_eq_true h, rfl, by rw [PyData.shown.eq_3]; exact l⟩
theorem odd_of : ∀ o ∈ odds, Odd o := by
  intro o h
  have h : o ∈ ([.num (-1), .of "@", .of "1a", .one "zip" (.num 1), .of ""] : List Sm) := h
  simp only [List.mem_cons, List.not_mem_nil, or_false] at h
  rcases h with rfl | rfl | rfl | rfl | rfl
  · exact ⟨by decide, trivial, by decide, (rp_num (by decide) (by decide +kernel)).mono (by decide) (by decide)⟩
  · exact ⟨by decide +kernel, (show ("@" : Str).length ≤ big from by decide +kernel), by decide, (rp_of (by decide +kernel) (by decide +kernel)).mono (by decide) (by decide)⟩
  · exact ⟨by decide +kernel, (show ("1a" : Str).length ≤ big from by decide +kernel), by decide, (rp_of (by decide +kernel) (by decide +kernel)).mono (by decide) (by decide)⟩
  · exact ⟨by decide +kernel, ⟨by decide +kernel, by decide +kernel, trivial⟩, by decide, rp_two ((rp_str (by decide +kernel) (by decide +kernel)).mono (by decide) (Nat.le_refl 30)) ((rp_num (i := 1) (by decide) (by decide +kernel)).mono (Nat.le_refl 1) (by decide : 64 ≤ 66))⟩
  · exact ⟨by decide +kernel, (show ("" : Str).length ≤ big from by decide +kernel), by decide, (rp_of (by decide +kernel) (by decide +kernel)).mono (by decide) (by decide)⟩
/-- the four wrong sums -/
abbrev wrongs (t o : Sm) : List Sm := [.two "+" t o, .one "no" o, .three "choose" t o t, .two "<=" o t]
theorem wrong_of {t o : Sm} (ht : t.drn) (hh : t.ht ≤ 3) (hz : t.size ≤ 40) (ho : Odd o) : ∀ u ∈ wrongs t o, u.ok = false ∧ u.fine ∧ u.ht ≤ 4 ∧ Rp 6 10000 u.d := by
  have ft := (drn_ok ht).2.1
  have rt := (rp_drn ht).mono (show t.ht + 1 ≤ 5 by omega) (show 40 * t.size ≤ 1600 by omega)
  have ro := ho.rp.mono (show 2 ≤ 5 by decide) (Nat.le_refl 100)
  have h1 := ho.ht
  have rs : ∀ s : Str, PyData.strOk s = true → (cs (reprText s)).length ≤ 30 → Rp 5 30 (.str s) := fun s a b => (rp_str a b).mono (by decide) (Nat.le_refl _)
  intro u hu
  have hu : u ∈ ([.two "+" t o, .one "no" o, .three "choose" t o t, .two "<=" o t] : List Sm) := hu
  simp only [List.mem_cons, List.not_mem_nil, or_false] at hu
  rcases hu with rfl | rfl | rfl | rfl
  · refine ⟨?_, ⟨ft, ho.fine⟩, by show 1 + max t.ht o.ht ≤ 4; omega, (rp_three (rs "+" (by decide +kernel) (by decide +kernel)) rt ro).mono (Nat.le_refl _) (by decide)⟩
    show (isOp "+" && (t.ok && o.ok)) = false
    rw [ho.ok]
    simp
  · refine ⟨?_, ⟨by decide +kernel, by decide +kernel, ho.fine⟩, by show 1 + o.ht ≤ 4; omega, (rp_two (rs "no" (by decide +kernel) (by decide +kernel)) ro).mono (Nat.le_refl _) (by decide)⟩
    show ((("no" : Str) == "minus" || ("no" : Str) == "no") && o.ok) = false
    rw [ho.ok]
    simp
  · refine ⟨?_, ⟨ft, ho.fine, ft⟩, by show 1 + max t.ht (max o.ht t.ht) ≤ 4; omega, (rp_four (rs "choose" (by decide +kernel) (by decide +kernel)) rt ro rt).mono (Nat.le_refl _) (by decide)⟩
    show ((("choose" : Str) == "choose") && (t.ok && (o.ok && t.ok))) = false
    rw [ho.ok]
    simp
  · refine ⟨?_, ⟨ho.fine, ft⟩, by show 1 + max o.ht t.ht ≤ 4; omega, (rp_three (rs "<=" (by decide +kernel) (by decide +kernel)) ro rt).mono (Nat.le_refl _) (by decide)⟩
    show (isOp "<=" && (o.ok && t.ok)) = false
    rw [ho.ok]
    simp
end Qb
end PySem
namespace PySem
namespace Qb
open PySem.W PySem.Calls PyProof.Rows L2
/-! # wrong sums are refused -/
def spRe (K : Frag) : Sp := fun vs H Q _ => ∃ (S R : Addr) (m : Nat) (bu : Int) (v : V) (t : Sm), vs = [.ref S, v] ∧ St bu H S R m ∧ m ≤ 80000 ∧ t.drn ∧ t.ht ≤ 3 ∧ t.size ≤ 40 ∧ Dp K (U S R H) v t.d ∧
  ∀ H', St bu H' S R (m + 2) → Same (U S R H) (U S R H') → Q (.bl true) H'
theorem tupU {K : Frag} {bu : Int} {H : Hp} {S R p : Addr} {m : Nat} {vs : List V} {ds : List PyData} (T : St bu H S R m) (n : H p = none) (all : DpAll K (U S R H) vs ds) :
    St bu (L2.upd H p (.tup vs)) S R m ∧ Same (U S R H) (U S R (L2.upd H p (.tup vs))) ∧ Dp K (U S R (L2.upd H p (.tup vs))) (.ref p) (.tuple ds) :=
  ⟨T.upd (T.ne n), U_new n, mk_tupU n (T.ne n) all⟩
theorem dpPick {K : Frag} {H : Hp} {vs : List V} {os : List Sm} (all : DpAll K H vs (os.map Sm.d)) {r : Nat} (h : r < os.length) : ∃ v o, vs[r]? = some v ∧ o ∈ os ∧ Dp K H v o.d := by
  have e : (os.map Sm.d)[r]? = some os[r].d := by rw [List.getElem?_map, List.getElem?_eq_getElem h]; rfl
  obtain ⟨v, hv, hd⟩ := dpAt all e
  exact ⟨v, os[r], hv, List.getElem_mem h, hd⟩
section
variable {P : Program} {w : World} {K : Frag} {mg : Str → Option Value} {base : Heap}
abbrev sRe : Stmt := top 53
abbrev nRe : List Str := ["_law_state_here", "_law_passed", "_law_odd", "_law_wrong", "_law_raised", "_law_held", "e"]
theorem scRe : FnScope nRe ["_law_state_here", "_law_passed"] (defScope sRe) := ⟨rfl, rfl, rfl, by decide +kernel, rfl, by decide +kernel, by decide +kernel⟩
theorem ok_Re {spD : Sp} (drw : ∀ {S R : Addr} {H : Hp} {m : Nat} {bu k : Int} {Q : VK} {E : XK}, St bu H S R m → m < 90000 → 0 < k → k ≤ 10 ^ 30 → (∀ (H' : Hp) (r : Nat), (r : Int) < k → St bu H' S R (m + 1) → Same (U S R H) (U S R H') → (∀ b, b ≠ S → b ≠ R → H' b = H b) → Q (.int (r : Nat)) H') → spD ([.ref S, .int k] ++ []) H Q E) {f CT fI : Addr} {fd : FuncData} {mT : List Value} (EGi : EG K fI) (TT : EC K mg fI "InvalidTree" CT mT) (F : Fun K "_law_refused" "_law_refused" sRe f fd) (B : Blt mg) (hDr : Has P w K mg base 1 "_law_draw" ["_law_state_here", "_law_many"] spD)
    {fSh : Addr} {dSh : FuncData} (gSh : mg "show_sum" = some (.ref fSh)) (kSh : PySem.W.keepIn K (.ref fSh) = true) (bSh : Binds K dSh ["tree"] []) (GSh : FnOk P w K mg base (L2.CX P w) 14 fSh dSh ["tree"] (spSx K CT 5)) :
    FnG P w K mg base 15 f fd ["_law_state_here", "_law_passed"] (spRe K) := by
  obtain ⟨fDr, dDr, gDr, kDr, bDr, GDr⟩ := hDr
  refine ⟨fun vs H Q E h => ?_, fun A outer s H args us vs Q hgd0 hr0 e0 hb r h => ?_⟩
  · obtain ⟨S, R, m, bu, v, t, rfl, _⟩ := h
    rfl
  refine run_at (k := 14) F scRe hr0 e0 hb r (by obtain ⟨S, R, m, bu, v, t, rfl, _⟩ := h; rfl) fun cdv => ?_
  have hr : Room 14 (A.deeper (envOfC "_law_refused" (defScope sRe) s.heap.objs.size f cdv)) := hr0.deeper _
  have hgd : (A.deeper (envOfC "_law_refused" (defScope sRe) s.heap.objs.size f cdv)).guards = some [] := hgd0
  have un := hr.un
  have hu100 : (A.deeper (envOfC "_law_refused" (defScope sRe) s.heap.objs.size f cdv)).units + 100 < cLine := by omega
  refine ⟨_, (pss_cons (ps_set (i := 2) scRe.nd rfl (.inl rfl) (pe_ix ix_list (pe_lst (pa_cons (pe_tup (pa_cons pe_str (pa_cons (pe_un un_neg pe_int) pa_nil))) (pa_cons (pe_tup (pa_cons pe_str (pa_cons pe_str pa_nil))) (pa_cons (pe_tup (pa_cons pe_str (pa_cons pe_str pa_nil))) (pa_cons (pe_tup (pa_cons pe_str (pa_cons (pe_tup (pa_cons pe_str (pa_cons pe_int pa_nil))) pa_nil))) (pa_cons (pe_tup (pa_cons pe_str (pa_cons pe_str pa_nil))) pa_nil)))))) (pe_call GDr (hr.mono (by decide)) rfl gDr kDr bDr .nil pass0 (pa_cons (pv 0) (pa_cons pe_int pa_nil))) (fun _ _ => rfl)))
        (pss_cons (ps_set (i := 3) scRe.nd rfl (.inl rfl) (pe_ix ix_list (pe_lst (pa_cons (pe_tup (pa_cons pe_str (pa_cons (pv 1) (pa_cons (pv 2) pa_nil)))) (pa_cons (pe_tup (pa_cons pe_str (pa_cons (pv 2) pa_nil))) (pa_cons (pe_tup (pa_cons pe_str (pa_cons (pv 1) (pa_cons (pv 2) (pa_cons (pv 1) pa_nil))))) (pa_cons (pe_tup (pa_cons pe_str (pa_cons (pv 2) (pa_cons (pv 1) pa_nil)))) pa_nil))))) (pe_call GDr (hr.mono (by decide)) rfl gDr kDr bDr .nil pass0 (pa_cons (pv 0) (pa_cons pe_int pa_nil))) (fun _ _ => rfl)))
        (pss_cons (ps_set (i := 4) scRe.nd rfl (.inl rfl) pe_bl)
        (pss_cons (ps_set (i := 5) scRe.nd rfl (.inl rfl) pe_non)
        (pss_cons (ps_try_keep (i := 6) rfl rfl rfl scRe.nd rfl rfl ⟨rfl, by decide, .inl TT.gC⟩
          (fun W pn xe tk _ => (pss_one (ps_expr (pe_callS GSh hr rfl gSh kSh bSh (fun σ => passAt tk σ) (by exact (pa_cons (pv 3) pa_nil))))))
          (fun a cls d pn => (pss_cons (ps_set (i := 4) scRe.nd rfl (.inl rfl) pe_bl)
          (pss_one (ps_set (i := 5) scRe.nd rfl (.inl rfl) (show PE _ _ (tErrW K mg fI (tVar 6)) from pe_errw (fI := fI) (pv 6)))))))
        (pss_one (ps_ret (pe_and (pv 4) (pe_one (pe_cmpR op_eq (pe_callB (call_reprD hgd hu100) (by rfl) B.repr (by decide +kernel) (pa_cons (pv 5) pa_nil)) (pe_callB (call_reprD hgd hu100) (by rfl) B.repr (by decide +kernel) (pa_cons (pv 3) pa_nil)) (nomark _))))))))))), ?_⟩
  obtain ⟨S, R, m, bu, v, t, rfl, T, hm, hd, hh, hz, dv, k⟩ := h
  have d2 : ∀ {H : Hp} {x y : Str}, DpAll K H [.str x, .str y] [.str x, .str y] := .cons (.str _) (.cons (.str _) .nil)
  refine ⟨_, rfl, (by decide : 2 ≤ sizeLine), fun p1 n1 => ?_⟩
  obtain ⟨T1, s1, e1⟩ := tupU (K := K) (ds := [.str "number", .int (-1)]) T n1 (.cons (.str _) (.cons (.int _) .nil))
  generalize L2.upd H p1 _ = H1 at T1 s1 e1 ⊢
  refine ⟨(by decide : 2 ≤ sizeLine), fun p2 n2 => ?_⟩
  obtain ⟨T2, s2, e2⟩ := tupU (K := K) (ds := [.str "of", .str "@"]) T1 n2 d2
  generalize L2.upd H1 p2 _ = H2 at T2 s2 e2 ⊢
  refine ⟨(by decide : 2 ≤ sizeLine), fun p3 n3 => ?_⟩
  obtain ⟨T3, s3, e3⟩ := tupU (K := K) (ds := [.str "of", .str "1a"]) T2 n3 d2
  generalize L2.upd H2 p3 _ = H3 at T3 s3 e3 ⊢
  refine ⟨(by decide : 2 ≤ sizeLine), fun p4 n4 => ?_⟩
  obtain ⟨T4, s4, e4⟩ := tupU (K := K) (ds := [.str "number", .int 1]) T3 n4 (.cons (.str _) (.cons (.int _) .nil))
  generalize L2.upd H3 p4 _ = H4 at T4 s4 e4 ⊢
  refine ⟨(by decide : 2 ≤ sizeLine), fun p5 n5 => ?_⟩
  obtain ⟨T5, s5, e5⟩ := tupU (K := K) (ds := [.str "zip", .tuple [.str "number", .int 1]]) T4 n5 (.cons (.str _) (.cons e4 .nil))
  generalize L2.upd H4 p5 _ = H5 at T5 s5 e5 ⊢
  refine ⟨(by decide : 2 ≤ sizeLine), fun p6 n6 => ?_⟩
  obtain ⟨T6, s6, e6⟩ := tupU (K := K) (ds := [.str "of", .str ""]) T5 n6 d2
  generalize L2.upd H5 p6 _ = H6 at T6 s6 e6 ⊢
  refine ⟨(by decide : 5 ≤ sizeLine), fun D nD => ?_⟩
  have all : DpAll K (U S R H6) [.ref p1, .ref p2, .ref p3, .ref p5, .ref p6] (odds.map Sm.d) :=
    .cons (dp_same (((((s2.trans s3).trans s4).trans s5).trans s6)) e1) (.cons (dp_same ((((s3.trans s4).trans s5).trans s6)) e2) (.cons (dp_same ((s4.trans s5).trans s6) e3) (.cons (dp_same s6 e5) (.cons e6 .nil))))
  have T7 := T6.upd (o := .lst [.ref p1, .ref p2, .ref p3, .ref p5, .ref p6]) (T6.ne nD)
  have s7 := U_new (S := S) (R := R) (o := .lst [.ref p1, .ref p2, .ref p3, .ref p5, .ref p6]) nD
  have nDs := T6.ne nD
  have hD : (L2.upd H6 D (.lst [.ref p1, .ref p2, .ref p3, .ref p5, .ref p6])) D = some (.lst [.ref p1, .ref p2, .ref p3, .ref p5, .ref p6]) := upd_same
  generalize L2.upd H6 D _ = H7 at T7 s7 hD ⊢
  refine ⟨_, rfl, drw (k := 5) T7 (by omega) (by decide) (by decide) fun H8 r8 hr8 T8 s8 off8 => ?_⟩
  have hD8 : H8 D = some (.lst [.ref p1, .ref p2, .ref p3, .ref p5, .ref p6]) := by rw [off8 D nDs.1 nDs.2]; exact hD
  obtain ⟨vo, o, hvo, mo, dvo⟩ := dpPick (dpAll_same (s7.trans s8) all) (r := r8) (by show r8 < 5; omega)
  have od := odd_of o mo
  have sA : Same (U S R H) (U S R H8) := ((((((s1.trans s2).trans s3).trans s4).trans s5).trans s6).trans s7).trans s8
  refine ⟨D, _, _, _, rfl, rfl, SqL.of hD8, atI_nat hvo, ?_⟩
  have dv8 := dp_same sA dv
  -- the wrong ones
  refine ⟨_, rfl, _, rfl, (by decide : 3 ≤ sizeLine), fun q1 m1 => ?_⟩
  obtain ⟨U1, z1, c1⟩ := tupU (K := K) (ds := [.str "+", t.d, o.d]) T8 m1 (.cons (.str _) (.cons dv8 (.cons dvo .nil)))
  generalize L2.upd H8 q1 _ = J1 at U1 z1 c1 ⊢
  refine ⟨_, rfl, (by decide : 2 ≤ sizeLine), fun q2 m2 => ?_⟩
  obtain ⟨U2, z2, c2⟩ := tupU (K := K) (ds := [.str "no", o.d]) U1 m2 (.cons (.str _) (.cons (dp_same z1 dvo) .nil))
  generalize L2.upd J1 q2 _ = J2 at U2 z2 c2 ⊢
  have z12 := z1.trans z2
  refine ⟨_, rfl, _, rfl, _, rfl, (by decide : 4 ≤ sizeLine), fun q3 m3 => ?_⟩
  obtain ⟨U3, z3, c3⟩ := tupU (K := K) (ds := [.str "choose", t.d, o.d, t.d]) U2 m3 (.cons (.str _) (.cons (dp_same z12 dv8) (.cons (dp_same z12 dvo) (.cons (dp_same z12 dv8) .nil))))
  generalize L2.upd J2 q3 _ = J3 at U3 z3 c3 ⊢
  have z13 := z12.trans z3
  refine ⟨_, rfl, _, rfl, (by decide : 3 ≤ sizeLine), fun q4 m4 => ?_⟩
  obtain ⟨U4, z4, c4⟩ := tupU (K := K) (ds := [.str "<=", o.d, t.d]) U3 m4 (.cons (.str _) (.cons (dp_same z13 dvo) (.cons (dp_same z13 dv8) .nil)))
  generalize L2.upd J3 q4 _ = J4 at U4 z4 c4 ⊢
  have z14 := z13.trans z4
  refine ⟨(by decide : 4 ≤ sizeLine), fun D2 nD2 => ?_⟩
  have all2 : DpAll K (U S R J4) [.ref q1, .ref q2, .ref q3, .ref q4] ((wrongs t o).map Sm.d) :=
    .cons (dp_same ((z2.trans z3).trans z4) c1) (.cons (dp_same (z3.trans z4) c2) (.cons (dp_same z4 c3) (.cons c4 .nil)))
  have U5 := U4.upd (o := .lst [.ref q1, .ref q2, .ref q3, .ref q4]) (U4.ne nD2)
  have z5 := U_new (S := S) (R := R) (o := .lst [.ref q1, .ref q2, .ref q3, .ref q4]) nD2
  have nD2s := U4.ne nD2
  have hD2 : (L2.upd J4 D2 (.lst [.ref q1, .ref q2, .ref q3, .ref q4])) D2 = some (.lst [.ref q1, .ref q2, .ref q3, .ref q4]) := upd_same
  generalize L2.upd J4 D2 _ = J5 at U5 z5 hD2 ⊢
  refine ⟨_, rfl, drw (k := 4) U5 (by omega) (by decide) (by decide) fun J6 r6 hr6 U6 z6 off6 => ?_⟩
  have hD6 : J6 D2 = some (.lst [.ref q1, .ref q2, .ref q3, .ref q4]) := by rw [off6 D2 nD2s.1 nD2s.2]; exact hD2
  obtain ⟨vw, u, hvw, mu, dvw⟩ := dpPick (dpAll_same (z5.trans z6) all2) (r := r6) (by show r6 < 4; omega)
  obtain ⟨uo, uf, uh, ur⟩ := wrong_of hd hh hz od u mu
  have sB : Same (U S R H) (U S R J6) := ((sA.trans z14).trans z5).trans z6
  refine ⟨D2, _, _, _, rfl, rfl, SqL.of hD6, atI_nat hvw, ?_⟩
  refine ⟨_, rfl, vw, u, rfl, dp_same U_back dvw, by omega, uf, .inr ⟨uo, fun K1 x sx dx => ?_⟩⟩
  intro d nd
  refine ⟨TT.takes TT (by simp), fun a na => ?_⟩
  have W1 := U6.same sx
  have W2 := W1.upd (o := .xd [(("value" : Str), x)]) (W1.ne nd)
  have y1 : Same K1 (L2.upd K1 d (.xd [(("value" : Str), x)])) := same_upd nd
  have W3 := W2.upd (o := ErO (.ref CT) (some d) a) (W2.ne na)
  have y2 := same_upd (o := ErO (.ref CT) (some d) a) na
  have hx : (L2.upd K1 d (.xd [(("value" : Str), x)])) d = some (.xd [(("value" : Str), x)]) := upd_same
  refine ⟨_, rfl, a, CT, x, _, _, rfl, TT, ⟨d, upd_same, y2 _ _ hx⟩, ?_⟩
  have dx3 := dp_same (y1.trans y2) dx
  have dw3 := dp_same (sx.trans (y1.trans y2)) (dp_same U_back dvw)
  refine ⟨_, rfl, _, rfl, if_yes rfl ⟨_, rfl, x, u.d, rfl, ur.wd dx3 (by decide) (by decide), _, rfl, vw, u.d, rfl, ur.wd dw3 (by decide) (by decide), rfl, ?_⟩⟩
  rw [decide_eq_true rfl]
  exact k _ (W3.le (by omega)) (sB.trans (U_same (sx.trans (y1.trans y2))))
end
end Qb
end PySem
namespace PySem
namespace Qb
open PySem.W PySem.Calls PyProof.Rows L2
/-! # the law -/
theorem takes_no {X : Cx} : Takes X (fun _ _ _ _ => False) := by
  rintro u z ⟨e, B, sI, qs, σ1, H1, cls, d, rfl, J0, inB, ups, air, ne, sameOs, gens, ofC, wish⟩
abbrev lgW : List Str := ["", " ", "\n ", "  "]
theorem lg_of : ∀ g ∈ lgW, Gp (cs g) := by
  have key : ∀ g ∈ lgW, (∀ c ∈ cs g, c ∈ wsC) ∧ (cs g).length ≤ 2 := by decide +kernel
  exact fun g m => ⟨(key g m).1, (key g m).2⟩
/-- what a told text is -/
structure Told (t : Sm) (x : Str) : Prop where
  eq : ∃ (g1 g2 y : L) (l : Nat), cs x = g1 ++ (y ++ g2) ∧ Gp g1 ∧ Gp g2 ∧ Tx l t y
theorem told_fit {t : Sm} {x : Str} (h : Told t x) (hh : t.ht ≤ 3) : Fit nF x ∧ rdAll nF (cs x) = some t := by
  obtain ⟨g1, g2, y, l, e, a, b, ty⟩ := h.eq
  have f1 := a.few
  have f2 := b.few
  refine ⟨fit_of ty hh e (by omega) (by omega) (by rw [a.wt, b.wt]; decide), ?_⟩
  obtain ⟨ek, k, w, _, hk⟩ := ty.wr
  rw [e]
  exact told_read w a.bl b.bl (by show 6 * k + 10 ≤ 221; omega)
theorem spoilt_fit {t : Sm} {x y : Str} (h : Told t x) (hh : t.ht ≤ 3) (s : SpW x y) : Fit nF y ∧ rdAll nF (cs y) = none := by
  obtain ⟨g1, g2, z, l, e, a, b, ty⟩ := h.eq
  have f1 := a.few
  have f2 := b.few
  obtain ⟨ek, k, w0, _, hk⟩ := ty.wr
  have bw : ∀ w ∈ bhW, (cs w).length ≤ 10 ∧ wt (cs w) ≤ 4 := by decide +kernel
  have aw : ∀ w ∈ ahW, (cs w).length ≤ 10 ∧ wt (cs w) ≤ 4 := by decide +kernel
  rcases s with ⟨w, mw, rfl⟩ | ⟨w, mw, rfl⟩ | rfl | rfl
  · have n := bw w mw
    have ew : cs (x ++ w) = (g1 ++ (z ++ g2)) ++ cs w := by rw [cs_app, e]
    refine ⟨fit_of ty hh (p := g1) (q := g2 ++ cs w) (by rw [ew]; simp) (by omega) (by rw [List.length_append]; omega) (by rw [wt_app, a.wt, b.wt]; omega), ?_⟩
    rw [ew]
    exact behind_none w0 a.bl b.bl (by show 6 * k + 10 ≤ 221; omega) (bh_bad w mw)
  · have n := aw w mw
    have ew : cs (w ++ x) = cs w ++ (g1 ++ (z ++ g2)) := by rw [cs_app, e]
    refine ⟨fit_of ty hh (p := cs w ++ g1) (q := g2) (by rw [ew]; simp) (by rw [List.length_append]; omega) (by omega) (by rw [wt_app, a.wt, b.wt]; omega), ?_⟩
    rw [ew]
    exact ahead_bad w0 a.bl b.bl (by show 6 * k + 20 ≤ 221; omega) w mw
  · refine ⟨⟨by decide, Rn_len (by decide +kernel), by decide +kernel⟩, ?_⟩
    rw [show cs ("" : Str) = [] from by decide +kernel]
    exact blank_none fun c m => nomatch m
  · refine ⟨⟨by decide, Rn_len (by decide +kernel), by decide +kernel⟩, ?_⟩
    rw [show cs (" " : Str) = [32] from by decide +kernel]
    exact blank_none fun c m => by rw [List.mem_singleton.mp m]; decide
def lawSp (K : Frag) : Sp := fun vs H Q _ => ∃ (a : Addr) (ns : List Int), vs = [.ref a] ∧ SqL K H a (ns.map V.int) ∧ ns.length ≤ 63 ∧ ∀ H', Q (.bl true) H'
section
variable {P : Program} {w : World} {K : Frag} {mg : Str → Option Value} {base : Heap}
abbrev sLw : Stmt := top 54
abbrev nLw : List Str := ["_law_script", "_law_state_here", "_law_passed", "_law_gap", "_law_told", "_law_spoilt_here", "_law_raised", "_law_held", "e"]
theorem scLw : FnScope nLw ["_law_script"] (defScope sLw) := ⟨rfl, rfl, rfl, by decide +kernel, rfl, by decide +kernel, by decide +kernel⟩
theorem ok_Lw {spD : Sp} (drw : ∀ {S R : Addr} {H : Hp} {m : Nat} {bu k : Int} {Q : VK} {E : XK}, St bu H S R m → m < 90000 → 0 < k → k ≤ 10 ^ 30 → (∀ (H' : Hp) (r : Nat), (r : Int) < k → St bu H' S R (m + 1) → Same (U S R H) (U S R H') → (∀ b, b ≠ S → b ≠ R → H' b = H b) → Q (.int (r : Nat)) H') → spD ([.ref S, .int k] ++ []) H Q E)
    {f CT CU fI : Addr} {fd : FuncData} {mU : List Value} (EGi : EG K fI) (TU : EC K mg fI "Unreadable" CU mU) (F : Fun K "law" "law" sLw f fd) (B : Blt mg) {fSta fLs fSh fTx fRe fRs : Addr} {dSta dLs dSh dTx dRe dRs : FuncData} (hDr : Has P w K mg base 1 "_law_draw" ["_law_state_here", "_law_many"] spD)
    (gSta : mg "_law_state" = some (.ref fSta)) (kSta : PySem.W.keepIn K (.ref fSta) = true) (bSta : Binds K dSta ["_law_script"] []) (GSta : FnOk P w K mg base CX0 1 fSta dSta ["_law_script"] (spState K))
    (gLs : mg "_law_sum" = some (.ref fLs)) (kLs : PySem.W.keepIn K (.ref fLs) = true) (bLs : Binds K dLs ["_law_state_here", "_law_deep"] []) (GLs : FnOk P w K mg base CX0 9 fLs dLs ["_law_state_here", "_law_deep"] (spLs K 4))
    (gSh : mg "show_sum" = some (.ref fSh)) (kSh : PySem.W.keepIn K (.ref fSh) = true) (bSh : Binds K dSh ["tree"] []) (GSh : FnOk P w K mg base (L2.CX P w) 14 fSh dSh ["tree"] (spSx K CT 5))
    (gTx : mg "_law_sum_text" = some (.ref fTx)) (kTx : PySem.W.keepIn K (.ref fTx) = true) (bTx : Binds K dTx ["_law_state_here", "_law_node", "_law_least"] []) (GTx : FnOk P w K mg base CX0 7 fTx dTx ["_law_state_here", "_law_node", "_law_least"] (spTx K 4))
    (gRe : mg "_law_refused" = some (.ref fRe)) (kRe : PySem.W.keepIn K (.ref fRe) = true) (bRe : Binds K dRe ["_law_state_here", "_law_passed"] []) (GRe : FnG P w K mg base 15 fRe dRe ["_law_state_here", "_law_passed"] (spRe K))
    (hSp : Has P w K mg base 2 "_law_spoilt" ["_law_state_here", "_law_told"] spSp)
    (gRs : mg "read_sum" = some (.ref fRs)) (kRs : PySem.W.keepIn K (.ref fRs) = true) (bRs : Binds K dRs ["text"] []) (cRs : KBinds K dRs ["text"] ["text"] (fun us ws => us ++ ws) (fun vs zs => vs ++ zs)) (GRs : FnOk P w K mg base (L2.CX P w) (nF + 7) fRs dRs ["text"] (spRs K CU nF)) :
    FnG P w K mg base (nF + 8) f fd ["_law_script"] (lawSp K) := by
  obtain ⟨fDr, dDr, gDr, kDr, bDr, GDr⟩ := hDr
  obtain ⟨fSp, dSp, gSp, kSp, bSp, GSp⟩ := hSp
  refine ⟨fun vs H Q E h => ?_, fun A outer s H args us vs Q hgd0 hr0 e0 hb r h => ?_⟩
  · obtain ⟨a, ns, rfl, _⟩ := h
    rfl
  refine run_at (k := nF + 7) F scLw hr0 e0 hb r (by obtain ⟨a, ns, rfl, _⟩ := h; rfl) fun cdv => ?_
  have hr : Room (nF + 7) (A.deeper (envOfC "law" (defScope sLw) s.heap.objs.size f cdv)) := hr0.deeper _
  have hgd : (A.deeper (envOfC "law" (defScope sLw) s.heap.objs.size f cdv)).guards = some [] := hgd0
  have un := hr.un
  have hu100 : (A.deeper (envOfC "law" (defScope sLw) s.heap.objs.size f cdv)).units + 100 < cLine := by omega
  refine ⟨_, (pss_cons (ps_set (i := 1) scLw.nd rfl (.inl rfl) (pe_call GSta (hr.mono (by decide)) rfl gSta kSta bSta .nil pass0 (pa_cons (pv 0) pa_nil)))
        (pss_cons (ps_set (i := 2) scLw.nd rfl (.inl rfl) (pe_call GLs (hr.mono (by decide)) rfl gLs kLs bLs .nil pass0 (pa_cons (pv 1) (pa_cons pe_int pa_nil))))
        (pss_cons (ps_if (PW.pt (pw_or (pt_cmpR op_ne (pe_callS GSh (hr.mono (by decide)) rfl gSh kSh bSh (fun σ => passAt takes_no σ) (by exact (pa_cons (pv 2) pa_nil))) (pe_call GTx (hr.mono (by decide)) rfl gTx kTx bTx .nil pass0 (pa_cons pe_non (pa_cons (pv 2) (pa_cons pe_int pa_nil)))) (nomark _)) (pw_or1 (pt_not (pt_val (pe_callG GRe hgd (hr.mono (by decide)) rfl gRe kRe bRe (pa_cons (pv 1) (pa_cons (pv 2) pa_nil)))))))) (pss_one (ps_ret pe_bl)) pss_nil)
        (pss_cons (ps_set (i := 3) scLw.nd rfl (.inl rfl) (pe_lst (pa_cons pe_str (pa_cons pe_str (pa_cons pe_str (pa_cons pe_str pa_nil))))))
        (pss_cons (ps_set (i := 4) scLw.nd rfl (.inl rfl) (pe_op op_add_str (pe_op op_add_str (pe_ix ix_list (pv 3) (pe_call GDr (hr.mono (by decide)) rfl gDr kDr bDr .nil pass0 (pa_cons (pv 1) (pa_cons pe_int pa_nil))) (fun _ _ => rfl)) (pe_call GTx (hr.mono (by decide)) rfl gTx kTx bTx .nil pass0 (pa_cons (pv 1) (pa_cons (pv 2) (pa_cons pe_int pa_nil))))) (pe_ix ix_list (pv 3) (pe_call GDr (hr.mono (by decide)) rfl gDr kDr bDr .nil pass0 (pa_cons (pv 1) (pa_cons pe_int pa_nil))) (fun _ _ => rfl))))
        (pss_cons (ps_if (pt_cmpR op_ne (pe_callB (call_reprD hgd hu100) (by rfl) B.repr (by decide +kernel) (pa_cons (pe_callKwS GRs hr rfl gRs kRs cRs (fun σ => passAt takes_no σ) (pk_cons (pv 4) pk_nil)) pa_nil)) (pe_callB (call_reprD hgd hu100) (by rfl) B.repr (by decide +kernel) (pa_cons (pv 2) pa_nil)) (nomark _)) (pss_one (ps_ret pe_bl)) pss_nil)
        (pss_cons (ps_set (i := 5) scLw.nd rfl (.inl rfl) (pe_call GSp (hr.mono (by decide)) rfl gSp kSp bSp .nil pass0 (pa_cons (pv 1) (pa_cons (pv 4) pa_nil))))
        (pss_cons (ps_set (i := 6) scLw.nd rfl (.inl rfl) pe_bl)
        (pss_cons (ps_set (i := 7) scLw.nd rfl (.inl rfl) pe_non)
        (pss_cons (ps_try_keep (i := 8) rfl rfl rfl scLw.nd rfl rfl ⟨rfl, by decide, .inl TU.gC⟩
          (fun W pn xe tk _ => (pss_one (ps_expr (pe_callS GRs hr rfl gRs kRs bRs (fun σ => passAt tk σ) (by exact (pa_cons (pv 5) pa_nil))))))
          (fun a cls d pn => (pss_cons (ps_set (i := 6) scLw.nd rfl (.inl rfl) pe_bl)
          (pss_one (ps_set (i := 7) scLw.nd rfl (.inl rfl) (show PE _ _ (tErrW K mg fI (tVar 8)) from pe_errw (fI := fI) (pv 8)))))))
        (pss_one (ps_ret (pe_and (pv 6) (pe_and (pe_callB call_isi (by rfl) B.isi (by decide +kernel) (pa_cons (pv 7) (pa_cons (pe_bltn (v := .ty "str") (by rfl) B.str (by decide +kernel) rfl) pa_nil))) (pe_one (pe_cmpR op_eq (pv 7) (pv 5) (nomark _))))))))))))))))), ?_⟩
  obtain ⟨a, ns, rfl, hS, hl, k⟩ := h
  refine ⟨_, rfl, a, ns, rfl, hS, hl, fun H1 S R rs T1 nS nR s1 => ?_⟩
  refine ⟨_, rfl, S, R, 0, 34, rfl, by decide, ⟨rs, 0, T1, Nat.le_refl _⟩, fun H2 v t T2 s2 dv hd ht hz hi hj => ?_⟩
  replace ht : t.ht ≤ 3 := ht
  clear hz hi hj
  have hz : t.size ≤ 40 := by
    have z1 := size_ht t
    have z2 : 3 ^ (t.ht + 1) ≤ 3 ^ 4 := Nat.pow_le_pow_right (by decide) (by omega)
    rw [show 3 ^ 4 = 81 by decide] at z2
    omega
  obtain ⟨ok, fine, good⟩ := drn_ok hd
  have sh := shd hd
  have len := sh.len
  have rp := (rp_drn hd).mono (show t.ht + 1 ≤ 4 by omega) (show 40 * t.size ≤ 1600 by omega)
  have dv2 : Dp K H2 v t.d := dp_same U_back dv
  refine ⟨_, rfl, v, t, rfl, dv2, by omega, fine, .inl ⟨ok, by omega, good, fun H3 s3 => ?_⟩⟩
  refine ⟨_, rfl, none, v, t, 1, 0, 0, rfl, rfl, by decide, by omega, hd, trivial, by omega, by omega, dp_same s3 dv2, fun H4 x _ s4 _ lx => ?_⟩
  have lx : x = t.shw := by
    have z := lx rfl
    rw [decide_eq_false (show ¬ t.rank < 1 by have := rank_ge (ok_nice ok); omega)] at z
    exact z
  subst lx
  have T4 := (T2.same s3).same s4
  have s34 : Same (U S R H2) (U S R H4) := U_same (s3.trans s4)
  refine ⟨rfl, _, rfl, if_no (by simp) ?_⟩
  refine ⟨_, rfl, _, rfl, S, R, _, _, v, t, rfl, T4, by omega, hd, ht, hz, dp_same s34 dv, fun H5 T5 s5 => ⟨_, rfl, if_no rfl ?_⟩⟩
  have sA : Same (U S R H2) (U S R H5) := s34.trans s5
  refine ⟨(by decide : 4 ≤ sizeLine), fun D nD => ?_⟩
  have T6 := T5.upd (o := .lst (lgW.map V.str)) (T5.ne nD)
  have s6 := U_new (S := S) (R := R) (o := .lst (lgW.map V.str)) nD
  have nDs := T5.ne nD
  have hD : (L2.upd H5 D (.lst (lgW.map V.str))) D = some (.lst (lgW.map V.str)) := upd_same
  replace T6 : St _ (L2.upd H5 D (.lst [.str "", .str " ", .str "\n ", .str "  "])) S R _ := T6
  replace s6 : Same (U S R H5) (U S R (L2.upd H5 D (.lst [.str "", .str " ", .str "\n ", .str "  "]))) := s6
  replace hD : (L2.upd H5 D (.lst [.str "", .str " ", .str "\n ", .str "  "])) D = some (.lst (lgW.map V.str)) := hD
  generalize L2.upd H5 D (.lst [.str "", .str " ", .str "\n ", .str "  "]) = H6 at T6 s6 hD ⊢
  have sB := sA.trans s6
  refine ⟨_, rfl, _, rfl, drw (k := 4) T6 (by omega) (by decide) (by decide) fun H7 r7 hr7 T7 s7 off7 => ?_⟩
  have hD7 : H7 D = some (.lst (lgW.map V.str)) := by rw [off7 D nDs.1 nDs.2]; exact hD
  obtain ⟨g1, mg1, hg1⟩ := pick_of lgW (r := r7) (by show r7 < 4; omega)
  have gp1 := lg_of g1 mg1
  have g1l : g1.length ≤ 2 := by rw [len_cs]; exact gp1.few
  refine ⟨D, _, _, _, rfl, rfl, SqL.of hD7, atI_nat hg1, ?_⟩
  have sC := sB.trans s7
  refine ⟨_, rfl, _, rfl, some (S, R, _), v, t, 1, 0, _, rfl, rfl, by decide, by omega, hd, T7, by omega, by omega, dp_same sC dv, fun H8 y T8 s8 hy _ => ?_⟩
  have T8 : St _ H8 S R _ := T8
  have s8 : Same (U S R H7) (U S R H8) := s8
  have hD8 : H8 D = some (.lst (lgW.map V.str)) := U_back _ _ (s8 _ _ (U_set hD7 nDs.1 nDs.2))
  have sD := sC.trans s8
  have ly := hy.len
  refine ⟨_, _, rfl, rfl, line_small (by rw [len_st]; omega), ?_⟩
  refine ⟨_, rfl, _, rfl, drw (k := 4) T8 (by omega) (by decide) (by decide) fun H9 r9 hr9 T9 s9 off9 => ?_⟩
  have hD9 : H9 D = some (.lst (lgW.map V.str)) := by rw [off9 D nDs.1 nDs.2]; exact hD8
  obtain ⟨g2, mg2, hg2⟩ := pick_of lgW (r := r9) (by show r9 < 4; omega)
  have gp2 := lg_of g2 mg2
  have g2l : g2.length ≤ 2 := by rw [len_cs]; exact gp2.few
  have sE := sD.trans s9
  refine ⟨D, _, _, _, rfl, rfl, SqL.of hD9, atI_nat hg2, _, _, rfl, rfl, line_small (by rw [len_cs, cs_app, cs_st, List.length_append, ← len_cs]; omega), ?_⟩
  have ex : cs (g1 ++ st y ++ g2) = cs g1 ++ (y ++ cs g2) := by rw [cs_app, cs_app, cs_st]; simp
  have told : Told t (g1 ++ st y ++ g2) := ⟨⟨_, _, y, 1, ex, gp1, gp2, hy⟩⟩
  have lx : (g1 ++ st y ++ g2).length ≤ 80000 := by
    rw [len_cs, ex, List.length_append, List.length_append, ← len_cs, ← len_cs]
    omega
  generalize g1 ++ st y ++ g2 = x at told lx
  clear ex
  obtain ⟨fx, rx⟩ := told_fit told ht
  refine ⟨_, rfl, x, rfl, fx, fun t' et Ha va sa da => ?_, fun et => by rw [rx] at et; cases et⟩
  rw [rx] at et
  cases et
  have sF := sE.trans (U_same sa)
  have dva := dp_same U_back (dp_same sF dv)
  refine ⟨va, t.d, rfl, rp.wd da (by decide) (by decide), _, rfl, v, t.d, rfl, rp.wd dva (by decide) (by decide), rfl, _, rfl, if_no (by simp) ?_⟩
  have Ta := T9.same sa
  refine ⟨_, rfl, _, rfl, S, R, _, _, x, rfl, lx, Ta, by omega, fun Hb y2 Tb sb sp => ?_⟩
  obtain ⟨fy, ry⟩ := spoilt_fit told ht sp
  refine ⟨_, rfl, y2, rfl, fy, (fun t' et => by rw [ry] at et; cases et), fun _ Hc sc => ?_⟩
  intro d nd
  refine ⟨TU.takes TU (by simp), fun e ne => ?_⟩
  have hx : (L2.upd Hc d (.xd [(("value" : Str), .str y2)])) d = some (.xd [(("value" : Str), .str y2)]) := upd_same
  refine ⟨_, rfl, e, CU, .str y2, _, _, rfl, TU, ⟨d, upd_same, (same_upd ne) _ _ hx⟩, ?_⟩
  refine ⟨_, rfl, _, rfl, if_yes rfl ⟨_, rfl, .str y2, .ty "str", .type "str", .type "str", true, rfl, .ty _, .base (.str _), kit_ty (by decide +kernel), _, rfl, if_yes rfl ⟨_, rfl, _, rfl, rfl, ?_⟩⟩⟩
  rw [decide_eq_true rfl]
  exact k _
end
end Qb
end PySem
namespace PySem
namespace Qb
open PySem.W PySem.Calls PyProof.Rows L2
section
variable {P : Program} {w : World} {K : Frag} {mg : Str → Option Value} {base : Heap}
abbrev sIn : Stmt := inClass (top 2) 0
theorem scIn : FnScope ["self", "value"] ["self", "value"] (defScope sIn) := ⟨rfl, rfl, rfl, by decide +kernel, rfl, by decide +kernel, by decide +kernel⟩
theorem ok_In {f : Addr} {fd : FuncData} (F : Fun K "__init__" "ShellError.__init__" sIn f fd) : FnOk P w K mg base CX0 1 f fd ["self", "value"] (spInit K) := by
  refine F.ok scIn (fun vs H Q E h => ?_) (fun cdv A outer s H vs Q E hr h => ⟨_, pss_one (ps_ost (pv 0) (pv 1)), ?_⟩)
  · obtain ⟨a, C, v, rfl, _⟩ := h
    rfl
  · obtain ⟨a, C, v, rfl, T, hno, ha, k⟩ := h
    exact ⟨_, rfl, _, rfl, a, C, rfl, T, hno, .inl ⟨ha, fun dx nd ne => k dx nd ne⟩⟩
end
theorem glob_mk {K : Frag} {mg : Str → Option Value} {h : Heap} {x c d : Str} {t : Tok} (X : K.In h) (G : h.Ns mainGlobals mg) (a : nsIn K mainGlobals x = some (some (.str c t))) (e : c = d) : ∃ t, mg x = some (.str d t) := ⟨t, e ▸ mg_of X G a⟩
theorem glob_mkI {K : Frag} {mg : Str → Option Value} {h : Heap} {x : Str} {c d : Int} {t : Tok} (X : K.In h) (G : h.Ns mainGlobals mg) (a : nsIn K mainGlobals x = some (some (.int c t))) (e : c = d) : ∃ t, mg x = some (.int d t) := ⟨t, e ▸ mg_of X G a⟩
theorem tup_mk {K : Frag} {mg : Str → Option Value} {h : Heap} {x : Str} {p : Addr} {dd : Option Addr} {its : Array Value} {n : Nat} {sl : Array (Option Value)} {ws : List Str}
    (X : K.In h) (G : h.Ns mainGlobals mg) (a : nsIn K mainGlobals x = some (some (.ref p))) (l : K.lookup p = some ⟨.type "tuple", dd, .seq its n, sl⟩) (z : its.size ≤ 1000) (v : Vals (ws.map V.str) its.toList) :
    ∃ p, mg x = some (.ref p) ∧ ∀ H, SqT K H p (ws.map V.str) :=
  ⟨p, mg_of X G a, fun H => .inr ⟨_, its, n, l, rfl, rfl, Nat.le_trans z (by decide), v⟩⟩
/-- a written dict of texts: its entries -/
inductive Ent (w : World) : List DictEntry → List (Str × V) → Prop where
  | nil : Ent w [] []
  | cons {h : Int} {x : Str} {t : Tok} {u : Value} {v : V} {es : List DictEntry} {ps : List (Str × V)} (hk : h = PyData.keyHash w.params x) (hv : RelV v u) (r : Ent w es ps) : Ent w (⟨h, .str x t, u⟩ :: es) ((x, v) :: ps)
theorem Ent.lit {w : World} : ∀ {es : List DictEntry} {ps : List (Str × V)}, Ent w es ps → KeysLit w.params es
  | _, _, .nil => trivial
  | _, _, .cons hk _ r => ⟨⟨_, _, rfl, hk⟩, r.lit⟩
theorem Ent.none_ref {w : World} : ∀ {es : List DictEntry} {ps : List (Str × V)}, Ent w es ps → es.any (·.refKey) = false
  | _, _, .nil => rfl
  | _, _, .cons _ _ r => by
    rw [List.any_cons, r.none_ref]
    rfl
theorem Ent.find {w : World} (s : Str) : ∀ {es : List DictEntry} {ps : List (Str × V)}, Ent w es ps → (ps.lookup s = none → es.find? (·.key.isStr s) = none) ∧ (∀ v, ps.lookup s = some v → ∃ e, es.find? (·.key.isStr s) = some e ∧ RelV v e.val)
  | _, _, .nil => ⟨fun _ => rfl, fun v z => by cases z⟩
  | _, _, @Ent.cons _ h x t u v es ps hk hv r => by
    have e1 : ((⟨h, .str x t, u⟩ : DictEntry).key.isStr s) = (x == s) := rfl
    rw [List.find?_cons, e1, List.lookup_cons]
    by_cases c : s = x
    · subst c
      simp only [beq_self_eq_true]
      refine ⟨(fun z => by cases z), (fun v' z => ⟨_, rfl, ?_⟩)⟩
      cases z
      exact hv
    · rw [beq_eq_false_iff_ne.mpr c, beq_eq_false_iff_ne.mpr (Ne.symm c)]
      exact r.find s
theorem dict_mk {K : Frag} {w : World} {mg : Str → Option Value} {h : Heap} {d : Addr} {es : Array DictEntry} {n : Nat} {ps : List (Str × V)} {x : Str}
    (X : K.In h) (G : h.Ns mainGlobals mg) (a : nsIn K mainGlobals x = some (some (.ref d))) (l : K.lookup d = some ⟨.type "dict", none, .dict es n, #[]⟩) (e : Ent w es.toList ps) (low : (d == sysModules) = false) :
    mg x = some (.ref d) ∧ KDict K w d es n ∧ ∀ s, (ps.lookup s = none → PySem.W.nsIn K d s = some none) ∧ (∀ v, ps.lookup s = some v → ∃ u, PySem.W.nsIn K d s = some (some u) ∧ RelV v u) := by
  refine ⟨mg_of X G a, ⟨l, e.lit, low⟩, fun s => ?_⟩
  have en : PySem.W.nsIn K d s = (match es.toList.find? (·.key.isStr s) with | some e => some (some e.val) | none => if es.toList.any (·.refKey) then none else some none) := by
    unfold PySem.W.nsIn
    rw [l]
    rfl
  obtain ⟨f1, f2⟩ := e.find s
  refine ⟨fun z => ?_, fun v z => ?_⟩
  · rw [en, f1 z, e.none_ref]
    rfl
  · obtain ⟨e', h1, h2⟩ := f2 v z
    rw [en, h1]
    exact ⟨_, rfl, h2⟩
def rkP : List (Str × V) := [("||", .int 2), ("&&", .int 3), ("==", .int 4), ("!=", .int 4), ("<", .int 5), ("<=", .int 5), (">", .int 5), (">=", .int 5), ("+", .int 6), ("-", .int 6), ("*", .int 7), ("/", .int 7), ("^", .int 7)]
def ahP : List (Str × V) := [("minus", .str "-"), ("no", .str "!")]
theorem lookup_map (s : Str) : ∀ (l : List (Str × Nat)), (l.map fun p => (p.1, V.int (p.2 : Nat))).lookup s = (l.lookup s).map fun n => V.int (n : Nat)
  | [] => rfl
  | (x, n) :: l => by
    rw [List.map_cons, List.lookup_cons, List.lookup_cons]
    cases (s == x) with
    | true => rfl
    | false => exact lookup_map s l
theorem rks_mk {K : Frag} {w : World} {mg : Str → Option Value} {h : Heap} {d : Addr} {es : Array DictEntry} {n : Nat}
    (X : K.In h) (G : h.Ns mainGlobals mg) (a : nsIn K mainGlobals "RANKS" = some (some (.ref d))) (l : K.lookup d = some ⟨.type "dict", none, .dict es n, #[]⟩) (e : Ent w es.toList rkP) (low : (d == sysModules) = false) :
    ∃ (d : Addr) (es : Array DictEntry) (n : Nat), mg "RANKS" = some (.ref d) ∧ KDict K w d es n ∧ ∀ s : Str, (isOp s = false → PySem.W.nsIn K d s = some none) ∧ (isOp s = true → ∃ t, PySem.W.nsIn K d s = some (some (.int (rk s : Nat) t))) := by
  obtain ⟨h1, h2, h3⟩ := dict_mk X G a l e low
  have er : rkP = rks.map fun p => (p.1, V.int (p.2 : Nat)) := rfl
  refine ⟨d, es, n, h1, h2, fun s => ?_⟩
  obtain ⟨f1, f2⟩ := h3 s
  rw [er, lookup_map] at f1 f2
  refine ⟨fun z => f1 ?_, fun z => ?_⟩
  · unfold isOp at z
    cases q : rks.lookup s with
    | none => rfl
    | some n => rw [q] at z; cases z
  · unfold isOp at z
    obtain ⟨m, hm⟩ := Option.isSome_iff_exists.mp z
    rw [hm] at f2
    obtain ⟨u, h4, t, rfl⟩ := f2 _ rfl
    refine ⟨t, ?_⟩
    rw [h4]
    unfold rk
    rw [hm]
    rfl
theorem ahs_mk {K : Frag} {w : World} {mg : Str → Option Value} {h : Heap} {d : Addr} {es : Array DictEntry} {n : Nat}
    (X : K.In h) (G : h.Ns mainGlobals mg) (a : nsIn K mainGlobals "AHEAD_SIGNS" = some (some (.ref d))) (l : K.lookup d = some ⟨.type "dict", none, .dict es n, #[]⟩) (e : Ent w es.toList ahP) (low : (d == sysModules) = false) :
    ∃ (d : Addr) (es : Array DictEntry) (n : Nat), mg "AHEAD_SIGNS" = some (.ref d) ∧ KDict K w d es n ∧ (∃ t, PySem.W.nsIn K d "minus" = some (some (.str "-" t))) ∧ ∃ t, PySem.W.nsIn K d "no" = some (some (.str "!" t)) := by
  obtain ⟨h1, h2, h3⟩ := dict_mk X G a l e low
  refine ⟨d, es, n, h1, h2, ?_, ?_⟩
  · obtain ⟨u, h4, t, rfl⟩ := (h3 "minus").2 (.str "-") rfl
    exact ⟨t, h4⟩
  · obtain ⟨u, h4, t, rfl⟩ := (h3 "no").2 (.str "!") rfl
    exact ⟨t, h4⟩
/-- the law holds, by what the text's top has left -/
theorem law_holds {P : Program} {w : World} {K : Frag} {mg mb : Str → Option Value} {s : Shared} {fa a : Addr} {vs : List Value} {ns : List Int} {f0 f1 f2 f3 f4 f5 f6 f7 f8 f9 f10 f11 f12 f13 f14 f15 f16 f17 f18 f19 f20 f21 f22 f23 f24 f25 f26 f27 f28 f29 f30 f31 f32 f33 f34 f35 C CU CT : Addr} {d0 d1 d2 d3 d4 d5 d6 d7 d8 d9 d10 d11 d12 d13 d14 d15 d16 d17 d18 d19 d20 d21 d22 d23 d24 d25 d26 d27 d28 d29 d30 d31 d32 d33 d34 d35 : FuncData} {mU mT : List Value}
    (KX : K.In s.heap) (hns : s.heap.Ns mainGlobals mg) (hb : s.heap.Ns builtinsNs mb) (hbb : ∀ x : Str, x ≠ "__name__" → mb x = bootBuiltins x) (lim : s.heap.NoLimit) (hg : s.gens = #[])
    (ha : s.heap.get? a = some { cls := .type "list", data := .seq vs.toArray }) (hi : IntsAre vs ns) (hl : ns.length ≤ 63)
    (W : Wrt K w mg) (B : Blt mg) (T : Txt K mg C) (EGi : EG K f0)
    (TU : EC K mg f0 "Unreadable" CU mU) (TT : EC K mg f0 "InvalidTree" CT mT)
    (F0 : Fun K "__init__" "ShellError.__init__" sIn f0 d0) 
    (F1 : Fun K "name_length" "name_length" sNl f1 d1) (g1 : mg "name_length" = some (.ref f1))
    (F2 : Fun K "is_name" "is_name" sNn f2 d2) (g2 : mg "is_name" = some (.ref f2))
    (F3 : Fun K "is_place" "is_place" sIp f3 d3) (g3 : mg "is_place" = some (.ref f3))
    (F4 : Fun K "is_sum" "is_sum" sIs f4 d4) (g4 : mg "is_sum" = some (.ref f4))
    (F5 : Fun K "rank" "rank" sRk f5 d5) (g5 : mg "rank" = some (.ref f5))
    (F6 : Fun K "show_sum" "show_sum" sSx f6 d6) (g6 : mg "show_sum" = some (.ref f6))
    (F7 : Fun K "fresh" "fresh" sFr f7 d7) (g7 : mg "fresh" = some (.ref f7))
    (F8 : Fun K "sum_text" "sum_text" sSt f8 d8) (g8 : mg "sum_text" = some (.ref f8))
    (F9 : Fun K "part_text" "part_text" sPt f9 d9) (g9 : mg "part_text" = some (.ref f9))
    (F10 : Fun K "__init__" "Scanner.__init__" sSc f10 d10) (M10 : Mk K C f10)
    (F11 : Fun K "is_at_end" "Scanner.is_at_end" sAe f11 d11) (m11 : Meth K C "is_at_end" f11)
    (F12 : Fun K "sees" "Scanner.sees" sSe f12 d12) (m12 : Meth K C "sees" f12)
    (F13 : Fun K "sees_one_of" "Scanner.sees_one_of" sSo f13 d13) (m13 : Meth K C "sees_one_of" f13)
    (F14 : Fun K "takes" "Scanner.takes" sTa f14 d14) (m14 : Meth K C "takes" f14)
    (F15 : Fun K "need" "Scanner.need" sNe f15 d15) (m15 : Meth K C "need" f15)
    (F16 : Fun K "row_of" "Scanner.row_of" sRo f16 d16) (m16 : Meth K C "row_of" f16)
    (F17 : Fun K "fail" "Scanner.fail" sFa f17 d17) (m17 : Meth K C "fail" f17)
    (F18 : Fun K "sum_at" "sum_at" sSu f18 d18) (g18 : mg "sum_at" = some (.ref f18))
    (F19 : Fun K "two_parts_at" "two_parts_at" sTw f19 d19) (g19 : mg "two_parts_at" = some (.ref f19))
    (F20 : Fun K "two_part_sign" "two_part_sign" sTs f20 d20) (g20 : mg "two_part_sign" = some (.ref f20))
    (F21 : Fun K "ahead_at" "ahead_at" sAh f21 d21) (g21 : mg "ahead_at" = some (.ref f21))
    (F22 : Fun K "plain_at" "plain_at" sPl f22 d22) (g22 : mg "plain_at" = some (.ref f22))
    (F23 : Fun K "place_at" "place_at" sPc f23 d23) (g23 : mg "place_at" = some (.ref f23))
    (F24 : Fun K "digits_at" "digits_at" sDg f24 d24) (g24 : mg "digits_at" = some (.ref f24))
    (F25 : Fun K "read_sum" "read_sum" sRs f25 d25) (g25 : mg "read_sum" = some (.ref f25))
    (F26 : Fun K "_law_state" "_law_state" sState f26 d26) (g26 : mg "_law_state" = some (.ref f26))
    (F27 : Fun K "_law_draw" "_law_draw" sDraw f27 d27) (g27 : mg "_law_draw" = some (.ref f27))
    (F28 : Fun K "_law_signs" "_law_signs" sSig f28 d28) (g28 : mg "_law_signs" = some (.ref f28))
    (F29 : Fun K "_law_name" "_law_name" sNm f29 d29) (g29 : mg "_law_name" = some (.ref f29))
    (F30 : Fun K "_law_sum" "_law_sum" sLs f30 d30) (g30 : mg "_law_sum" = some (.ref f30))
    (F31 : Fun K "_law_pick" "_law_pick" sPk f31 d31) (g31 : mg "_law_pick" = some (.ref f31))
    (F32 : Fun K "_law_sum_text" "_law_sum_text" sTx f32 d32) (g32 : mg "_law_sum_text" = some (.ref f32))
    (F33 : Fun K "_law_spoilt" "_law_spoilt" sSp f33 d33) (g33 : mg "_law_spoilt" = some (.ref f33))
    (F34 : Fun K "_law_refused" "_law_refused" sRe f34 d34) (g34 : mg "_law_refused" = some (.ref f34))
    (F35 : Fun K "law" "law" sLw f35 d35) (g35 : mg "law" = some (.ref f35))
    (hfa : mg "law" = some (.ref fa)) : codeAny (model P w) callerA (.call (.ref fa) ⟨[.ref a], []⟩) (fun r s' => r = .ok (.ret (.bool true)) ∧ OldK s.heap s'.heap ∧ s'.os = s.os ∧ AllBare s'.gens) s := by
  have e := hfa.symm.trans g35
  cases e
  have b0 := F0.binds (ps := ["self", "value"]) fun _ _ _ _ _ _ us hl => match us, hl with | [_, _], _ => rfl
  have b1 := F1.binds (ps := ["text"]) fun _ _ _ _ _ _ us hl => match us, hl with | [_], _ => rfl
  have b2 := F2.binds (ps := ["text"]) fun _ _ _ _ _ _ us hl => match us, hl with | [_], _ => rfl
  have b3 := F3.binds (ps := ["text"]) fun _ _ _ _ _ _ us hl => match us, hl with | [_], _ => rfl
  have b4 := F4.binds (ps := ["tree"]) fun _ _ _ _ _ _ us hl => match us, hl with | [_], _ => rfl
  have b5 := F5.binds (ps := ["tree"]) fun _ _ _ _ _ _ us hl => match us, hl with | [_], _ => rfl
  have b6 := F6.binds (ps := ["tree"]) fun _ _ _ _ _ _ us hl => match us, hl with | [_], _ => rfl
  have b7 := F7.binds (ps := ["thing"]) fun _ _ _ _ _ _ us hl => match us, hl with | [_], _ => rfl
  have b8 := F8.binds (ps := ["tree"]) fun _ _ _ _ _ _ us hl => match us, hl with | [_], _ => rfl
  have b9 := F9.binds (ps := ["tree", "least"]) fun _ _ _ _ _ _ us hl => match us, hl with | [_, _], _ => rfl
  have b10 := F10.binds (ps := ["self", "text", "whole"]) fun _ _ _ _ _ _ us hl => match us, hl with | [_, _, _], _ => rfl
  have b11 := F11.binds (ps := ["self"]) fun _ _ _ _ _ _ us hl => match us, hl with | [_], _ => rfl
  have b12 := F12.binds (ps := ["self", "mark"]) fun _ _ _ _ _ _ us hl => match us, hl with | [_, _], _ => rfl
  have b13 := F13.binds (ps := ["self", "some"]) fun _ _ _ _ _ _ us hl => match us, hl with | [_, _], _ => rfl
  have b14 := F14.binds (ps := ["self", "mark"]) fun _ _ _ _ _ _ us hl => match us, hl with | [_, _], _ => rfl
  have b15 := F15.binds (ps := ["self", "mark"]) fun _ _ _ _ _ _ us hl => match us, hl with | [_, _], _ => rfl
  have b16 := F16.binds (ps := ["self", "some"]) fun _ _ _ _ _ _ us hl => match us, hl with | [_, _], _ => rfl
  have b17 := F17.binds (ps := ["self"]) fun _ _ _ _ _ _ us hl => match us, hl with | [_], _ => rfl
  have b18 := F18.binds (ps := ["scanner"]) fun _ _ _ _ _ _ us hl => match us, hl with | [_], _ => rfl
  have b19 := F19.binds (ps := ["scanner", "least"]) fun _ _ _ _ _ _ us hl => match us, hl with | [_, _], _ => rfl
  have b20 := F20.binds (ps := ["scanner"]) fun _ _ _ _ _ _ us hl => match us, hl with | [_], _ => rfl
  have b21 := F21.binds (ps := ["scanner"]) fun _ _ _ _ _ _ us hl => match us, hl with | [_], _ => rfl
  have b22 := F22.binds (ps := ["scanner"]) fun _ _ _ _ _ _ us hl => match us, hl with | [_], _ => rfl
  have b23 := F23.binds (ps := ["scanner"]) fun _ _ _ _ _ _ us hl => match us, hl with | [_], _ => rfl
  have b24 := F24.binds (ps := ["scanner"]) fun _ _ _ _ _ _ us hl => match us, hl with | [_], _ => rfl
  have b25 := F25.binds (ps := ["text"]) fun _ _ _ _ _ _ us hl => match us, hl with | [_], _ => rfl
  have kb25 : KBinds K d25 ["text"] ["text"] (fun us ws => us ++ ws) (fun vs zs => vs ++ zs) := by
    obtain ⟨oc, od, kV, doc, pm, an, cdv, ct, osl, rfl, lk, hcd⟩ := F25.ex
    refine ⟨fun s us ws _ hl => ?_, fun r rz => r.append rz⟩
    match us, ws, hl with
    | [], [u], _ => exact .of_eq rfl
    | [u], [], _ => exact .of_eq rfl
  have b26 := F26.binds (ps := ["_law_script"]) fun _ _ _ _ _ _ us hl => match us, hl with | [_], _ => rfl
  have b27 := F27.binds (ps := ["_law_state_here", "_law_many"]) fun _ _ _ _ _ _ us hl => match us, hl with | [_, _], _ => rfl
  have b28 := F28.binds (ps := ["_law_state_here", "_law_some", "_law_least", "_law_most"]) fun _ _ _ _ _ _ us hl => match us, hl with | [_, _, _, _], _ => rfl
  have b29 := F29.binds (ps := ["_law_state_here"]) fun _ _ _ _ _ _ us hl => match us, hl with | [_], _ => rfl
  have b30 := F30.binds (ps := ["_law_state_here", "_law_deep"]) fun _ _ _ _ _ _ us hl => match us, hl with | [_, _], _ => rfl
  have b31 := F31.binds (ps := ["_law_state_here", "_law_many"]) fun _ _ _ _ _ _ us hl => match us, hl with | [_, _], _ => rfl
  have b32 := F32.binds (ps := ["_law_state_here", "_law_node", "_law_least"]) fun _ _ _ _ _ _ us hl => match us, hl with | [_, _, _], _ => rfl
  have b33 := F33.binds (ps := ["_law_state_here", "_law_told"]) fun _ _ _ _ _ _ us hl => match us, hl with | [_, _], _ => rfl
  have b34 := F34.binds (ps := ["_law_state_here", "_law_passed"]) fun _ _ _ _ _ _ us hl => match us, hl with | [_, _], _ => rfl
  have bL : ∀ (s : Shared) (u : Value), BindsTo s d35 ⟨[u], []⟩ ((["_law_script"] : List Str).zip [u]) := by
    obtain ⟨oc, od, kV, doc, pm, an, cdv, ct, osl, rfl, lk, hcd⟩ := F35.ex
    exact fun s u => .of_eq rfl
  refine law_at KX hns hb hbb lim hg ha hi (Nat.le_trans hl (by decide)) fun base H hK hN env sq => ?_
  have oIn := ok_In (P := P) (mg := mg) (w := w) (base := base) F0
  have oNl := has_Nl (P := P) (w := w) (base := base) F1 g1 B W
  have oNn := has_Nn (P := P) (w := w) (base := base) F2 g2 B oNl
  have oIp := has_Ip (P := P) (w := w) (base := base) F3 g3 B W
  have oIs := ok_Is (P := P) (w := w) (base := base) F4 g4 b4 B W oIp oNn 5
  have oRk := has_Rk (P := P) (w := w) (base := base) F5 g5 B W
  have oSt := ok_St (P := P) (w := w) (base := base) F8 g8 b8 F9 g9 b9 B W oNn oRk 5
  have oFr := ok_Fr (P := P) (w := w) (base := base) F7 g7 b7 B 6
  have oSh := ok_Sx (P := P) (w := w) (base := base) EGi TT oIn b0 F6 (n := 5) g4 F4.kp b4 oIs g7 F7.kp b7 oFr g8 F8.kp b8 oSt
  have oSc := ok_Sc (P := P) (mg := mg) (w := w) (base := base) F10 T
  have oAe := has_Ae (P := P) (w := w) (base := base) F11 m11 B T
  have oSe := has_Se (P := P) (w := w) (base := base) F12 m12 B T
  have oSo := has_So (P := P) (w := w) (base := base) F13 m13 B T
  have oTa := has_Ta (P := P) (w := w) (base := base) F14 m14 B T oSe
  have oFa := has_Fa (P := P) (w := w) (base := base) EGi TU oIn b0 F17 m17 B T
  have oNe := has_Ne (P := P) (w := w) (base := base) F15 m15 B T oTa oFa
  have oRo := has_Ro (P := P) (w := w) (base := base) F16 m16 B T oSo
  have oTs := has_Ts (P := P) (w := w) (base := base) F20 g20 W T oSe
  have oDg := has_Dg (P := P) (w := w) (base := base) F24 g24 B W T oRo oFa
  have oPc := has_Pc (P := P) (w := w) (base := base) F23 g23 T oTa oDg
  have oR := ok_rdrs (P := P) (w := w) (base := base) F18 g18 b18 F19 g19 b19 F21 g21 b21 F22 g22 b22 B W T oTa oNe oPc oSo oRo oDg oTs nF
  have oRs := ok_Rs (P := P) (w := w) (base := base) EGi TU oIn b0 F25 T M10 b10 oSc oAe g18 F18.kp b18 oR.su
  have oSta := ok_state (P := P) (mg := mg) (w := w) (base := base) F26 B
  have oDr := ok_draw (P := P) (mg := mg) (w := w) (base := base) F27 B
  have oNm := ok_nm (P := P) (w := w) (base := base) F29 B F27 g27 b27 F28 g28 b28
  have oLs := ok_Ls (P := P) (w := w) (base := base) drw nmw F30 g30 b30 g27 F27.kp b27 oDr g29 F29.kp b29 oNm 4
  have hDr : Has P w K mg base 1 "_law_draw" ["_law_state_here", "_law_many"] spDraw := ⟨f27, d27, g27, F27.kp, b27, oDr⟩
  have oPk := has_Pk (P := P) (w := w) (base := base) F31 g31 hDr
  have oTx := ok_Tx (P := P) (w := w) (base := base) F32 g32 b32 B oPk 4
  have oSp := has_Sp (P := P) (w := w) (base := base) F33 g33 B hDr
  have oRe := ok_Re (P := P) (w := w) (base := base) drw EGi TT F34 B hDr g6 F6.kp b6 oSh
  have hr : Room (nF + 8) callerA := ⟨rfl, by decide, by decide⟩
  exact (ok_Lw drw EGi TU F35 B hDr g26 F26.kp b26 oSta g30 F30.kp b30 oLs g6 F6.kp b6 oSh g32 F32.kp b32 oTx g34 F34.kp b34 oRe oSp g25 F25.kp b25 kb25 oRs).run callerA [] s H ⟨[.ref a], []⟩ [.ref a] [.ref a] (fun v _ => v = V.bl true) rfl hr env (bL s (.ref a)) (.cons rfl .nil) ⟨a, ns, rfl, sq, hl, fun _ => rfl⟩
end Qb
end PySem
open PySem PySem.W PyProof.Rows
set_option maxRecDepth 100000 in
set_option maxHeartbeats 0 in
theorem PySem.Challenge.cw_quotedback_k08_sums_read_holds : PySem.Challenge.rw_quotedback_k08_sums_read.Holds := by
  w_on; o_law; k_head; (case hw => w_witness2)
  k_fill
  refine Att.attach_call (l := PySem.Challenge.rw_quotedback_k08_sums_read) (n := 63) rfl rfl ?F
  case F =>
    intro w s₀ s₁ mg mb fa o pm cd doc a vs ns G Y ho hd hcd hmg hobj hints hlen hg
    have KX := kIn_of Y
    refine' PySem.Qb.law_holds KX G.T.g G.T.b G.T.builtins G.T.nolimit hg hobj hints hlen
      ⟨PySem.Qb.glob_mk KX G.T.g ?s0 ?e0, PySem.Qb.glob_mk KX G.T.g ?s1 ?e1, PySem.Qb.glob_mk KX G.T.g ?s2 ?e2, PySem.Qb.glob_mkI KX G.T.g ?s3 ?e3, PySem.Qb.glob_mkI KX G.T.g ?s4 ?e4, PySem.Qb.glob_mkI KX G.T.g ?s5 ?e5, PySem.Qb.tup_mk KX G.T.g ?tapls ?tlpls ?tzpls ?tvpls, PySem.Qb.tup_mk KX G.T.g ?taalls ?tlalls ?tzalls ?tvalls, PySem.Qb.tup_mk KX G.T.g ?tatps ?tltps ?tztps ?tvtps, PySem.Qb.rks_mk KX G.T.g ?ra ?rl ?re ?rlow, PySem.Qb.ahs_mk KX G.T.g ?aa ?al ?ae ?alow⟩
      ⟨mg_none_of KX G.T.g ?y0, mg_none_of KX G.T.g ?y1, mg_none_of KX G.T.g ?y2, mg_none_of KX G.T.g ?y3, mg_none_of KX G.T.g ?y4, mg_none_of KX G.T.g ?y5, mg_none_of KX G.T.g ?y6, mg_none_of KX G.T.g ?y7, mg_none_of KX G.T.g ?y8, mg_none_of KX G.T.g ?y9, mg_none_of KX G.T.g ?y10⟩
      ⟨⟨?pg, ?hdC, ?po, ?sa⟩, ?n0, ?n1, ?n2, ?n3, mg_of KX G.T.g ?aC⟩
      ⟨?tI, ?hn, ?ht⟩
      (PySem.Qb.ec_mk KX G.T.g ?aU ?lU ?rU ?saU ?gaU ?ggU ?noU ?iCU ?kCU ?ccU) (PySem.Qb.ec_mk KX G.T.g ?aT ?lT ?rT ?saT ?gaT ?ggT ?noT ?iCT ?kCT ?ccT)
      (L2.fun_mk ?lf0 ?cf0 ?kf0) 
      (L2.fun_mk ?lf1 ?cf1 ?kf1) (mg_of KX G.T.g ?af1)
      (L2.fun_mk ?lf2 ?cf2 ?kf2) (mg_of KX G.T.g ?af2)
      (L2.fun_mk ?lf3 ?cf3 ?kf3) (mg_of KX G.T.g ?af3)
      (L2.fun_mk ?lf4 ?cf4 ?kf4) (mg_of KX G.T.g ?af4)
      (L2.fun_mk ?lf5 ?cf5 ?kf5) (mg_of KX G.T.g ?af5)
      (L2.fun_mk ?lf6 ?cf6 ?kf6) (mg_of KX G.T.g ?af6)
      (L2.fun_mk ?lf7 ?cf7 ?kf7) (mg_of KX G.T.g ?af7)
      (L2.fun_mk ?lf8 ?cf8 ?kf8) (mg_of KX G.T.g ?af8)
      (L2.fun_mk ?lf9 ?cf9 ?kf9) (mg_of KX G.T.g ?af9)
      (L2.fun_mk ?lf10 ?cf10 ?kf10) ⟨?mk, ?ai10, ?ii10, ?kc⟩
      (L2.fun_mk ?lf11 ?cf11 ?kf11) ⟨?ai11, ?ii11, ?ki11⟩
      (L2.fun_mk ?lf12 ?cf12 ?kf12) ⟨?ai12, ?ii12, ?ki12⟩
      (L2.fun_mk ?lf13 ?cf13 ?kf13) ⟨?ai13, ?ii13, ?ki13⟩
      (L2.fun_mk ?lf14 ?cf14 ?kf14) ⟨?ai14, ?ii14, ?ki14⟩
      (L2.fun_mk ?lf15 ?cf15 ?kf15) ⟨?ai15, ?ii15, ?ki15⟩
      (L2.fun_mk ?lf16 ?cf16 ?kf16) ⟨?ai16, ?ii16, ?ki16⟩
      (L2.fun_mk ?lf17 ?cf17 ?kf17) ⟨?ai17, ?ii17, ?ki17⟩
      (L2.fun_mk ?lf18 ?cf18 ?kf18) (mg_of KX G.T.g ?af18)
      (L2.fun_mk ?lf19 ?cf19 ?kf19) (mg_of KX G.T.g ?af19)
      (L2.fun_mk ?lf20 ?cf20 ?kf20) (mg_of KX G.T.g ?af20)
      (L2.fun_mk ?lf21 ?cf21 ?kf21) (mg_of KX G.T.g ?af21)
      (L2.fun_mk ?lf22 ?cf22 ?kf22) (mg_of KX G.T.g ?af22)
      (L2.fun_mk ?lf23 ?cf23 ?kf23) (mg_of KX G.T.g ?af23)
      (L2.fun_mk ?lf24 ?cf24 ?kf24) (mg_of KX G.T.g ?af24)
      (L2.fun_mk ?lf25 ?cf25 ?kf25) (mg_of KX G.T.g ?af25)
      (L2.fun_mk ?lf26 ?cf26 ?kf26) (mg_of KX G.T.g ?af26)
      (L2.fun_mk ?lf27 ?cf27 ?kf27) (mg_of KX G.T.g ?af27)
      (L2.fun_mk ?lf28 ?cf28 ?kf28) (mg_of KX G.T.g ?af28)
      (L2.fun_mk ?lf29 ?cf29 ?kf29) (mg_of KX G.T.g ?af29)
      (L2.fun_mk ?lf30 ?cf30 ?kf30) (mg_of KX G.T.g ?af30)
      (L2.fun_mk ?lf31 ?cf31 ?kf31) (mg_of KX G.T.g ?af31)
      (L2.fun_mk ?lf32 ?cf32 ?kf32) (mg_of KX G.T.g ?af32)
      (L2.fun_mk ?lf33 ?cf33 ?kf33) (mg_of KX G.T.g ?af33)
      (L2.fun_mk ?lf34 ?cf34 ?kf34) (mg_of KX G.T.g ?af34)
      (L2.fun_mk ?lf35 ?cf35 ?kf35) (mg_of KX G.T.g ?af35) hmg
    (case s0 => k_is)
    (case s1 => k_is)
    (case s2 => k_is)
    (case s3 => k_is)
    (case s4 => k_is)
    (case s5 => k_is)
    (case tapls => k_is)
    (case tlpls => k_is)
    (case taalls => k_is)
    (case tlalls => k_is)
    (case tatps => k_is)
    (case tltps => k_is)
    (case ra => k_is)
    (case rl => k_is)
    (case aa => k_is)
    (case al => k_is)
    (case y0 => k_is)
    (case y1 => k_is)
    (case y2 => k_is)
    (case y3 => k_is)
    (case y4 => k_is)
    (case y5 => k_is)
    (case y6 => k_is)
    (case y7 => k_is)
    (case y8 => k_is)
    (case y9 => k_is)
    (case y10 => k_is)
    (case aC => k_is)
    (case pg => k_is)
    (case hdC => k_is)
    (case po => k_is)
    (case sa => k_is)
    (case n0 => unfold L2.NoAttr; k_is)
    (case n1 => unfold L2.NoAttr; k_is)
    (case n2 => unfold L2.NoAttr; k_is)
    (case n3 => unfold L2.NoAttr; k_is)
    (case aU => k_is)
    (case lU => k_is)
    (case aT => k_is)
    (case lT => k_is)
    (case rU => first | rfl | decide +kernel)
    (case rT => first | rfl | decide +kernel)
    (case saU => k_is)
    (case gaU => k_is)
    (case ggU => k_is)
    (case noU => k_is)
    (case iCU => k_is)
    (case kCU => k_is)
    (case ccU => k_is)
    (case saT => k_is)
    (case gaT => k_is)
    (case ggT => k_is)
    (case noT => k_is)
    (case iCT => k_is)
    (case kCT => k_is)
    (case ccT => k_is)
    (case tI => k_is)
    (case hn => k_is)
    (case ht => k_is)
    (case lf0 => k_is)
    (case cf0 => k_is)
    (case kf0 => k_is)
    (case af1 => k_is)
    (case lf1 => k_is)
    (case cf1 => k_is)
    (case kf1 => k_is)
    (case af2 => k_is)
    (case lf2 => k_is)
    (case cf2 => k_is)
    (case kf2 => k_is)
    (case af3 => k_is)
    (case lf3 => k_is)
    (case cf3 => k_is)
    (case kf3 => k_is)
    (case af4 => k_is)
    (case lf4 => k_is)
    (case cf4 => k_is)
    (case kf4 => k_is)
    (case af5 => k_is)
    (case lf5 => k_is)
    (case cf5 => k_is)
    (case kf5 => k_is)
    (case af6 => k_is)
    (case lf6 => k_is)
    (case cf6 => k_is)
    (case kf6 => k_is)
    (case af7 => k_is)
    (case lf7 => k_is)
    (case cf7 => k_is)
    (case kf7 => k_is)
    (case af8 => k_is)
    (case lf8 => k_is)
    (case cf8 => k_is)
    (case kf8 => k_is)
    (case af9 => k_is)
    (case lf9 => k_is)
    (case cf9 => k_is)
    (case kf9 => k_is)
    (case mk => k_is)
    (case ai10 => k_is)
    (case ii10 => k_is)
    (case kc => k_is)
    (case lf10 => k_is)
    (case cf10 => k_is)
    (case kf10 => k_is)
    (case ai11 => k_is)
    (case ii11 => k_is)
    (case ki11 => k_is)
    (case lf11 => k_is)
    (case cf11 => k_is)
    (case kf11 => k_is)
    (case ai12 => k_is)
    (case ii12 => k_is)
    (case ki12 => k_is)
    (case lf12 => k_is)
    (case cf12 => k_is)
    (case kf12 => k_is)
    (case ai13 => k_is)
    (case ii13 => k_is)
    (case ki13 => k_is)
    (case lf13 => k_is)
    (case cf13 => k_is)
    (case kf13 => k_is)
    (case ai14 => k_is)
    (case ii14 => k_is)
    (case ki14 => k_is)
    (case lf14 => k_is)
    (case cf14 => k_is)
    (case kf14 => k_is)
    (case ai15 => k_is)
    (case ii15 => k_is)
    (case ki15 => k_is)
    (case lf15 => k_is)
    (case cf15 => k_is)
    (case kf15 => k_is)
    (case ai16 => k_is)
    (case ii16 => k_is)
    (case ki16 => k_is)
    (case lf16 => k_is)
    (case cf16 => k_is)
    (case kf16 => k_is)
    (case ai17 => k_is)
    (case ii17 => k_is)
    (case ki17 => k_is)
    (case lf17 => k_is)
    (case cf17 => k_is)
    (case kf17 => k_is)
    (case af18 => k_is)
    (case lf18 => k_is)
    (case cf18 => k_is)
    (case kf18 => k_is)
    (case af19 => k_is)
    (case lf19 => k_is)
    (case cf19 => k_is)
    (case kf19 => k_is)
    (case af20 => k_is)
    (case lf20 => k_is)
    (case cf20 => k_is)
    (case kf20 => k_is)
    (case af21 => k_is)
    (case lf21 => k_is)
    (case cf21 => k_is)
    (case kf21 => k_is)
    (case af22 => k_is)
    (case lf22 => k_is)
    (case cf22 => k_is)
    (case kf22 => k_is)
    (case af23 => k_is)
    (case lf23 => k_is)
    (case cf23 => k_is)
    (case kf23 => k_is)
    (case af24 => k_is)
    (case lf24 => k_is)
    (case cf24 => k_is)
    (case kf24 => k_is)
    (case af25 => k_is)
    (case lf25 => k_is)
    (case cf25 => k_is)
    (case kf25 => k_is)
    (case af26 => k_is)
    (case lf26 => k_is)
    (case cf26 => k_is)
    (case kf26 => k_is)
    (case af27 => k_is)
    (case lf27 => k_is)
    (case cf27 => k_is)
    (case kf27 => k_is)
    (case af28 => k_is)
    (case lf28 => k_is)
    (case cf28 => k_is)
    (case kf28 => k_is)
    (case af29 => k_is)
    (case lf29 => k_is)
    (case cf29 => k_is)
    (case kf29 => k_is)
    (case af30 => k_is)
    (case lf30 => k_is)
    (case cf30 => k_is)
    (case kf30 => k_is)
    (case af31 => k_is)
    (case lf31 => k_is)
    (case cf31 => k_is)
    (case kf31 => k_is)
    (case af32 => k_is)
    (case lf32 => k_is)
    (case cf32 => k_is)
    (case kf32 => k_is)
    (case af33 => k_is)
    (case lf33 => k_is)
    (case cf33 => k_is)
    (case kf33 => k_is)
    (case af34 => k_is)
    (case lf34 => k_is)
    (case cf34 => k_is)
    (case kf34 => k_is)
    (case af35 => k_is)
    (case lf35 => k_is)
    (case cf35 => k_is)
    (case kf35 => k_is)
    (case e0 => first | rfl | decide +kernel)
    (case e1 => first | rfl | decide +kernel)
    (case e2 => first | rfl | decide +kernel)
    (case e3 => first | rfl | decide +kernel)
    (case e4 => first | rfl | decide +kernel)
    (case e5 => first | rfl | decide +kernel)
    (case tzpls => decide +kernel)
    (case tvpls => exact (.cons ⟨_, rfl⟩ (.cons ⟨_, rfl⟩ (.cons ⟨_, rfl⟩ (.cons ⟨_, rfl⟩ (.cons ⟨_, rfl⟩ .nil))))))
    (case tzalls => decide +kernel)
    (case tvalls => exact (.cons ⟨_, rfl⟩ (.cons ⟨_, rfl⟩ .nil)))
    (case tztps => decide +kernel)
    (case tvtps => exact (.cons ⟨_, rfl⟩ (.cons ⟨_, rfl⟩ (.cons ⟨_, rfl⟩ (.cons ⟨_, rfl⟩ (.cons ⟨_, rfl⟩ (.cons ⟨_, rfl⟩ (.cons ⟨_, rfl⟩ (.cons ⟨_, rfl⟩ (.cons ⟨_, rfl⟩ (.cons ⟨_, rfl⟩ (.cons ⟨_, rfl⟩ (.cons ⟨_, rfl⟩ (.cons ⟨_, rfl⟩ .nil))))))))))))))
    (case re => exact (.cons rfl ⟨_, rfl⟩ (.cons rfl ⟨_, rfl⟩ (.cons rfl ⟨_, rfl⟩ (.cons rfl ⟨_, rfl⟩ (.cons rfl ⟨_, rfl⟩ (.cons rfl ⟨_, rfl⟩ (.cons rfl ⟨_, rfl⟩ (.cons rfl ⟨_, rfl⟩ (.cons rfl ⟨_, rfl⟩ (.cons rfl ⟨_, rfl⟩ (.cons rfl ⟨_, rfl⟩ (.cons rfl ⟨_, rfl⟩ (.cons rfl ⟨_, rfl⟩ .nil))))))))))))))
    (case ae => exact (.cons rfl ⟨_, rfl⟩ (.cons rfl ⟨_, rfl⟩ .nil)))
    (case rlow => decide +kernel)
    (case alow => decide +kernel)
