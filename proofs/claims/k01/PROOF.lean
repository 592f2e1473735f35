import PyProof.Rows.All
import Wide.All
import OpenK.AllK
import Wide.FinOn
import PyProof.EqAt
import PyProof.EqKinds
import PyProof.TupleCall
import PyProof.RulesMatchSeq
import PyProof.Rows.MatchSeqLen
import HandS.ForMost
import HandS.Walk
import HandS.Iter
import HandS.Text
import HandS.IsInst
import PyProof.RulesMatchSingle
import HandS.Wide
import HandS.ExcInit
import HandS.ExcOwn
import HandS.ExcField
import KE.KExcIs
import HandS.More
import HandS.WideBits
import HandS.StrMore
import HandS.WordsExc
import HandS.Deep
import HandS.ReplaceLit
import HandS.ReplaceList
import PyProof.StrLawsRepr
import PyProof.ReprRoads
import HandS.Style
import PySem.Challenge.RW_quotedback_k01_words
set_option Elab.async false
set_option linter.all false
set_option maxRecDepth 100000
set_option maxHeartbeats 8000000
namespace PySem
namespace Qb
open PySem.W PySem.Calls PyProof.Rows L2
/-! # match over tuples, texts and names -/
/-- what a pattern asks: the values of its names in their order, or that it does not fit -/
abbrev PatR := V → Hp → (Option (List V) → Prop) → Prop
def PatE (X : Cx) (pins : List (Addr × Obj)) (σ : L2.St) (H : Hp) (ns : List Str) (Q : Option (List V) → Prop) (res : Option (List (Str × Value))) (s : Shared) : Prop :=
  Inv X pins σ H s ∧ match res with
    | none => Q none
    | some bs => bs.map (·.1) = ns ∧ ∃ vs, Vals vs (bs.map (·.2)) ∧ Q (some vs)
structure PPt (X : Cx) (pat : Pattern) (ns : List Str) (r : PatR) : Prop where
  run : ∀ (pins : List (Addr × Obj)) (s : Shared) (σ : L2.St) (H : Hp) (v : V) (u : Value) (Q : Option (List V) → Prop), Inv X pins σ H s → RelV v u → r v H Q →
    wpAny (model X.prog X.w) X.A (matchPattern pat X.env u) (fun res s1 => PatE X pins σ H ns Q res s1) X.xe s
def rEach : List PatR → List V → Hp → (Option (List V) → Prop) → Prop
  | r :: rs, x :: xs, H, Q => r x H fun o => match o with
    | none => Q none
    | some vs => rEach rs xs H fun o' => match o' with
      | none => Q none
      | some more => Q (some (vs ++ more))
  | _, _, _, Q => Q (some [])
structure PPs (X : Cx) (pats : List Pattern) (ns : List Str) (rs : List PatR) : Prop where
  len : rs.length = pats.length
  run : ∀ (pins : List (Addr × Obj)) (s : Shared) (σ : L2.St) (H : Hp) (vs : List V) (us : List Value) (Q : Option (List V) → Prop), Inv X pins σ H s → Vals vs us → vs.length = pats.length → rEach rs vs H Q →
    wpAny (model X.prog X.w) X.A (matchEach pats X.env us) (fun res s1 => PatE X pins σ H ns Q res s1) X.xe s
theorem ext_keeps {h h2 : Heap} (ex : Heap.ExtBut h.objs.size h h2) (b : Addr) (o : Obj) (z : h.get? b = some o) : h2.get? b = some o := by
  exact ex b o (Nat.ne_of_lt (Heap.lt_size z)) z
section
variable {X : Cx} {pos pos' : Pos}
def rLit (c : Str) : PatR := fun v _ Q => ∃ y, v = .str y ∧ Q (if y = c then some [] else none)
theorem pp_lit {c : Str} {j : Nat} : PPt X (.MatchValue (.Constant (.str c) j pos) pos') [] (rLit c) := by
  refine ⟨fun pins s σ H v u Q I r h => wpAny_matchPattern_Value ?_⟩
  obtain ⟨y, rfl, q⟩ := h
  refine thn (pe_str.run pins s σ H (fun z H1 => z = .str c ∧ H1 = H) I ⟨rfl, rfl⟩) fun x s1 ⟨z, H1, I1, rz, ez, eH⟩ => ?_
  subst ez
  subst eH
  refine thn (op_eq pins s1 σ H1 (.str y) (.str c) u x (fun w H2 => w = .bl (decide (V.str y = V.str c)) ∧ H2 = H1) I1 r rz ⟨rfl, rfl, rfl⟩) fun b s2 ⟨w, H2, I2, rw2, ew, eH⟩ => ?_
  subst ew
  subst eH
  obtain rfl : b = Value.bool (decide (V.str y = V.str c)) := rw2
  show wpAny _ _ (truthy (.bool _)) _ _ _
  refine wpAny_pure ?_
  by_cases e : y = c
  · rw [if_pos e] at q
    rw [if_pos (by simpa using e)]
    exact ⟨I2, rfl, [], .nil, q⟩
  · rw [if_neg e] at q
    rw [if_neg (by simpa using e)]
    exact ⟨I2, q⟩
def rCap : PatR := fun v _ Q => Q (some [v])
theorem pp_cap {n : Str} : PPt X (.MatchAs none (some n) pos) [n] rCap :=
  ⟨fun pins s σ H v u Q I r h => wpAny_matchPattern_Capture ⟨I, rfl, [v], .cons r .nil, h⟩⟩
def rAny1 : PatR := fun _ _ Q => Q (some [])
theorem pp_any : PPt X (.MatchAs none none pos) [] rAny1 :=
  ⟨fun pins s σ H v u Q I r h => wpAny_matchPattern_Capture ⟨I, rfl, [], .nil, h⟩⟩
theorem pps_nil : PPs X [] [] [] :=
  ⟨rfl, fun pins s σ H vs us Q I r hl h => by
    cases r with
    | nil => exact wpAny_matchEach_nil ⟨I, rfl, [], .nil, h⟩
    | cons _ _ => cases hl⟩
theorem pps_cons {p : Pattern} {ps : List Pattern} {ns ms : List Str} {r : PatR} {rs : List PatR} (h1 : PPt X p ns r) (h2 : PPs X ps ms rs) (hp : p.isStar = false := by rfl) : PPs X (p :: ps) (ns ++ ms) (r :: rs) := by
  refine ⟨congrArg Nat.succ h2.len, fun pins s σ H vs us Q I rv hl h => ?_⟩
  cases rv with
  | nil => cases hl
  | @cons x u xs us rx rt =>
    refine wpAny_matchEach_cons (thn (h1.run pins s σ H x u _ I rx h) fun res s1 ⟨I1, z⟩ => ?_) hp
    cases res with
    | none => exact ⟨I1, z⟩
    | some bs =>
      obtain ⟨e1, vs1, r1, q1⟩ := z
      refine thn (h2.run pins s1 σ H xs us _ I1 rt (Nat.succ.inj hl) q1) fun res2 s2 ⟨I2, z2⟩ => ?_
      cases res2 with
      | none => exact ⟨I2, z2⟩
      | some more =>
        obtain ⟨e2, vs2, r2, q2⟩ := z2
        exact ⟨I2, by rw [List.map_append, e1, e2], vs1 ++ vs2, by rw [List.map_append]; exact r1.append r2, q2⟩
def rSeq (K : Frag) (n : Nat) (rs : List PatR) : PatR := fun v H Q => ∃ a xs, v = .ref a ∧ SqT K H a xs ∧ (xs.length ≠ n → Q none) ∧ (xs.length = n → rEach rs xs H Q)
theorem pp_seq {ps : List Pattern} {ns : List Str} {rs : List PatR} {n : Nat} (hc : X.calm = true) (h : PPs X ps ns rs) (hn : ps.length = n := by rfl) (hstar : ps.findIdx? (·.isStar) = none := by rfl)
    (hwild : (ps.all fun p => p.isWildcard || (p.isStar && p.names.isEmpty)) = false := by rfl) : PPt X (.MatchSequence ps pos) ns (rSeq X.K n rs) := by
  refine ⟨fun pins s σ H v u Q I r h' => ?_⟩
  obtain ⟨a, xs, rfl, sq, qn, qy⟩ := h'
  obtain rfl : u = Value.ref a := r
  obtain ⟨its, rv, ht, hz⟩ := I.tuple sq
  have hfit : ((its.toArray.size : Nat) : Int) < 2 ^ 63 := by
    have e := rv.length
    rw [List.size_toArray, ← e]
    rw [sizeLine_eq] at hz
    omega
  have e := rv.length
  by_cases c : xs.length = n
  · refine matchSeq_tuple_hit ht hfit (by rw [List.size_toArray, ← e, c, hn]) ?_ hstar hwild
    have sz : ps.length = its.toArray.size := by rw [List.size_toArray, ← e, c, hn]
    rw [sz]
    refine unpackItems_tuple (I.ok.hd hc) ht fun h2 ex => ?_
    have J : Inv X pins σ H { s with heap := h2, toks := s.toks + 1 + 1 } := I.kept (t' := s.toks + 1 + 1) fun b o z => ext_keeps ex b o z
    refine h.run pins _ σ H xs _ Q J (by simpa using rv) (by rw [c, hn]) (qy c)
  · exact matchSeq_tuple_miss ht hfit (by rw [List.size_toArray, ← e, hn]; exact c) ⟨I.tok _, qn c⟩ hstar hwild
/-- one of some patterns without names -/
def rOr : List PatR → PatR
  | [] => fun _ _ Q => Q none
  | r :: rs => fun v H Q => r v H fun o => match o with
    | some vs => Q (some vs)
    | none => rOr rs v H Q
structure PFirst (X : Cx) (pats : List Pattern) (rs : List PatR) : Prop where
  run : ∀ (pins : List (Addr × Obj)) (s : Shared) (σ : L2.St) (H : Hp) (v : V) (u : Value) (Q : Option (List V) → Prop), Inv X pins σ H s → RelV v u → rOr rs v H Q →
    wpAny (model X.prog X.w) X.A (matchFirst pats X.env u) (fun res s1 => PatE X pins σ H [] Q res s1) X.xe s
theorem pf_nil : PFirst X [] [] := ⟨fun pins s σ H v u Q I r h => wpAny_matchFirst_nil ⟨I, h⟩⟩
theorem pf_cons {p : Pattern} {ps : List Pattern} {r : PatR} {rs : List PatR} (h1 : PPt X p [] r) (h2 : PFirst X ps rs) : PFirst X (p :: ps) (r :: rs) := by
  refine ⟨fun pins s σ H v u Q I rv h => wpAny_matchFirst_cons (thn (h1.run pins s σ H v u _ I rv h) fun res s1 ⟨I1, z⟩ => ?_)⟩
  cases res with
  | none => exact h2.run pins s1 σ H v u Q I1 rv z
  | some bs => exact ⟨I1, z⟩
theorem pp_or {ps : List Pattern} {rs : List PatR} (h : PFirst X ps rs) (hno : namesOfAll (ps.take 1) = [] := by rfl) : PPt X (.MatchOr ps pos) [] (rOr rs) := by
  refine ⟨fun pins s σ H v u Q I r h' => wpAny_matchPattern_Or (thn (h.run pins s σ H v u Q I r h') fun res s1 ⟨I1, z⟩ => ?_)⟩
  cases res with
  | none => exact ⟨I1, z⟩
  | some bs =>
    obtain ⟨e, vs, rv, q⟩ := z
    have e0 : bs = [] := List.map_eq_nil_iff.mp e
    subst e0
    cases rv
    rw [hno]
    exact ⟨I1, rfl, [], .nil, q⟩
/-- names stored in their slots, from the left -/
def setAll : L2.St → List Nat → List V → L2.St
  | σ, i :: is, v :: vs => setAll (σ.set i (some v)) is vs
  | σ, _, _ => σ
def SlotsOk (X : Cx) (ns : List Str) (is : List Nat) : Prop := Paired (fun n i => X.N[i]? = some n ∧ L2.Loc X.env.scope n ∧ (X.fn n = true ∨ X.env.scope.names.lookup n = some .local)) ns is
theorem store_all (hN : X.N.Nodup) {pins : List (Addr × Obj)} {H : Hp} {Q : Unit → Shared → Prop} : ∀ {ns : List Str} {is : List Nat} {bs : List (Str × Value)} {vs : List V} {σ : L2.St} {s : Shared}, SlotsOk X ns is → bs.map (·.1) = ns → Vals vs (bs.map (·.2)) → Inv X pins σ H s →
    (∀ s', Inv X pins (setAll σ is vs) H s' → Q () s') → wpAny (model X.prog X.w) X.A (assignInOrder (bs.map fun (n, _) => bindName X.env n) (bs.map (·.2))) Q X.xe s
  | _, _, [], _, _, _, ok, e, rv, I, q => by
    subst e
    cases rv
    cases ok
    exact wpAny_assignInOrder_none (q _ I)
  | _, _, (n, u) :: bs, _, _, _, ok, e, rv, I, q => by
    subst e
    cases rv with
    | cons r1 r2 =>
      cases ok with
      | cons o1 o2 =>
        refine wpAny_assignInOrder_more (wpAny_bindName (store_ok I hN o1.1 o1.2.1 r1 (fun s' I' => store_all hN o2 rfl r2 I' q) o1.2.2))
def tCases : List (List Nat × PatR × TS) → V → TS
  | [], _ => fun D σ H => D.nx σ H
  | (is, r, t) :: rest, v => fun D σ H => r v H fun o => match o with
    | none => tCases rest v D σ H
    | some vs => t D (setAll σ is vs) H
structure PCs (X : Cx) (cases : List MatchCase) (cs : List (List Nat × PatR × TS)) : Prop where
  run : ∀ (pins : List (Addr × Obj)) (s : Shared) (σ : L2.St) (H : Hp) (D : Ends) (v : V) (u : Value) (first : Bool), Inv X pins σ H s → RelV v u → tCases cs v D σ H →
    wpAny (model X.prog X.w) X.A (matchCases cases X.env u first) (SP X pins D) X.xe s
theorem pcs_nil : PCs X [] [] := ⟨fun pins s σ H D v u first I r h => wpAny_matchCases_nil ⟨σ, H, I, h⟩⟩
theorem pcs_cons {p : Pattern} {body : List Stmt} {cases : List MatchCase} {ns : List Str} {is : List Nat} {r : PatR} {t : TS} {cs : List (List Nat × PatR × TS)} (hN : X.N.Nodup) (h1 : PPt X p ns r) (hs : SlotsOk X ns is) (hb : PSs X body t) (h2 : PCs X cases cs) :
    PCs X (⟨p, none, body⟩ :: cases) ((is, r, t) :: cs) := by
  refine ⟨fun pins s σ H D v u first I rv h => wpAny_matchCases_cons (thn (h1.run pins s σ H v u _ I rv h) fun res s1 ⟨I1, z⟩ => ?_)⟩
  cases res with
  | none => exact h2.run pins s1 σ H D v u false I1 rv z
  | some bs =>
    obtain ⟨e, vs, r2, q⟩ := z
    exact store_all hN hs e r2 I1 fun s2 I2 => hb.run pins s2 _ H D I2 q
def tMatch (te : TE) (cs : List (List Nat × PatR × TS)) : TS := fun D σ H => te σ H fun v H1 => tCases cs v D σ H1
theorem ps_match {e : Expr} {cases : List MatchCase} {te : TE} {cs : List (List Nat × PatR × TS)} (he : PE X e te) (hc : PCs X cases cs) : PS X (.Match e cases pos) (tMatch te cs) :=
  ⟨fun pins s σ H D I h => wpAny_Match (thn (he.run pins s σ H _ I h) fun u s1 ⟨v, H1, I1, rv, q⟩ => hc.run pins s1 σ H1 D v u true I1 rv q)⟩
end
/-! # heaps -/
theorem same_upd {H : Hp} {a : Addr} {o : HO} (h : H a = none) : Same H (upd H a o) := fun b u e => by
  rw [upd_ne (ne_of_none e h)]
  exact e
theorem same_upd2 {H H1 : Hp} {a : Addr} {o : HO} (s : Same H H1) (h : H a = none) : Same H (upd H1 a o) := fun b u e => by
  rw [upd_ne (ne_of_none e h)]
  exact s b u e
theorem take_snoc {α : Type} {l : List α} {i : Nat} {x : α} (h : l[i]? = some x) : l.take (i + 1) = l.take i ++ [x] := by
  rw [List.take_succ, h]
  rfl
theorem if_no {c : Bool} {A B : Prop} (h : c = false) (b : B) : if c = true then A else B := by
  rw [h, if_neg Bool.false_ne_true]
  exact b
theorem if_yes {c : Bool} {A B : Prop} (h : c = true) (a : A) : if c = true then A else B := by
  rw [if_pos h]
  exact a
theorem if_by {c : Bool} {A B : Prop} (a : c = true → A) (b : c = false → B) : if c = true then A else B := by
  cases c with
  | true => exact a rfl
  | false => exact b rfl
abbrev cs (x : Str) : List Nat := x.cps.toList
theorem glob_str {X : Cx} {x : Str} {c : Str} {pos : Pos} (hg : Gl X x) (hm : ∃ t, X.mg x = some (.str c t)) (hd : (x == ("__debug__" : Str)) = false := by decide) : PE X (.Name x pos) (tC (.str c)) := by
  obtain ⟨t, e⟩ := hm
  exact pe_glob hg e ⟨t, rfl⟩ hd
theorem pe_never {X : Cx} {e : Expr} : PE X e (fun _ _ _ => False) := ⟨fun _ _ _ _ _ _ h => h.elim⟩
theorem pt_never {X : Cx} {e : Expr} : PT X e (fun _ _ _ => False) := ⟨fun _ _ _ _ _ _ h => h.elim⟩
theorem sqT_same {K : Frag} {H H' : Hp} {a : Addr} {xs : List V} (s : Same H H') (h : SqT K H a xs) : SqT K H' a xs := by
  rcases h with (h | ⟨o, h⟩) | h
  · exact .inl (.inl (s _ _ h))
  · exact .inl (.inr ⟨o, s _ _ h⟩)
  · exact .inr h
theorem dp_same {K : Frag} {H H' : Hp} (s : Same H H') : ∀ {d : PyData} {v : V}, Dp K H v d → Dp K H' v d := by
  intro d v h
  exact Dp.rec (motive_1 := fun v d _ => Dp K H' v d) (motive_2 := fun vs ds _ => DpAll K H' vs ds) .non .bl .int .str (fun h1 _ ih => .lst (s.seq h1) ih) (fun h1 _ ih => .tup (sqT_same s h1) ih) .nil (fun _ _ a b => .cons a b) h
theorem dpAll_same {K : Frag} {H H' : Hp} (s : Same H H') : ∀ {ds : List PyData} {vs : List V}, DpAll K H vs ds → DpAll K H' vs ds
  | [], _, .nil => .nil
  | _ :: _, _, .cons h t => .cons (dp_same s h) (dpAll_same s t)
theorem dpLen {K : Frag} {H : Hp} : ∀ {vs : List V} {ds : List PyData}, DpAll K H vs ds → vs.length = ds.length
  | _, _, .nil => rfl
  | _, _, .cons _ t => congrArg Nat.succ (dpLen t)
theorem dpAt {K : Frag} {H : Hp} : ∀ {vs : List V} {ds : List PyData} {i : Nat} {d : PyData}, DpAll K H vs ds → ds[i]? = some d → ∃ v, vs[i]? = some v ∧ Dp K H v d
  | _, _, _, _, .nil, e => by cases e
  | _, _, 0, _, .cons h _, e => by
    obtain rfl := Option.some.inj e
    exact ⟨_, rfl, h⟩
  | _, _, i + 1, _, .cons _ t, e => dpAt (i := i) t e
theorem dpAt' {K : Frag} {H : Hp} : ∀ {vs : List V} {ds : List PyData} {i : Nat} {v : V}, DpAll K H vs ds → vs[i]? = some v → ∃ d, ds[i]? = some d ∧ Dp K H v d
  | _, _, _, _, .nil, e => by cases e
  | _, _, 0, _, .cons h _, e => by
    obtain rfl := Option.some.inj e
    exact ⟨_, rfl, h⟩
  | _, _, i + 1, _, .cons _ t, e => dpAt' (i := i) t e
theorem dpApp {K : Frag} {H : Hp} : ∀ {vs ws : List V} {ds es : List PyData}, DpAll K H vs ds → DpAll K H ws es → DpAll K H (vs ++ ws) (ds ++ es)
  | _, _, _, _, .nil, h => h
  | _, _, _, _, .cons h t, h' => .cons h (dpApp t h')
theorem dpDrop {K : Frag} {H : Hp} : ∀ (n : Nat) {vs : List V} {ds : List PyData}, DpAll K H vs ds → DpAll K H (vs.drop n) (ds.drop n)
  | 0, _, _, h => h
  | n + 1, _, _, .nil => .nil
  | n + 1, _, _, .cons _ t => dpDrop n t
theorem dpTake {K : Frag} {H : Hp} : ∀ (n : Nat) {vs : List V} {ds : List PyData}, DpAll K H vs ds → DpAll K H (vs.take n) (ds.take n)
  | 0, _, _, _ => .nil
  | n + 1, _, _, .nil => .nil
  | n + 1, _, _, .cons h t => .cons h (dpTake n t)
theorem dp_tup {K : Frag} {H : Hp} {v : V} {ds : List PyData} (h : Dp K H v (.tuple ds)) : ∃ a xs, v = .ref a ∧ SqT K H a xs ∧ DpAll K H xs ds := by
  cases h with
  | tup h1 h2 => exact ⟨_, _, rfl, h1, h2⟩
theorem dp_lst {K : Frag} {H : Hp} {v : V} {ds : List PyData} (h : Dp K H v (.list ds)) : ∃ a xs, v = .ref a ∧ SqL K H a xs ∧ DpAll K H xs ds := by
  cases h with
  | lst h1 h2 => exact ⟨_, _, rfl, h1, h2⟩
theorem dp_str {K : Frag} {H : Hp} {v : V} {x : Str} (h : Dp K H v (.str x)) : v = .str x := by
  cases h
  rfl
theorem dp_two {K : Frag} {H : Hp} {v : V} {x y : Str} (h : Dp K H v (.tuple [.str x, .str y])) : ∃ a, v = .ref a ∧ SqT K H a [.str x, .str y] := by
  obtain ⟨a, xs, rfl, q, all⟩ := dp_tup h
  cases all with
  | cons h1 t =>
    cases t with
    | cons h2 t =>
      cases t
      obtain rfl := dp_str h1
      obtain rfl := dp_str h2
      exact ⟨a, rfl, q⟩
/-! # a def's place and promise -/
def Has (P : Program) (w : World) (K : Frag) (mg : Str → Option Value) (base : Heap) (k : Nat) (x : Str) (ps : List Str) (sp : Sp) : Prop :=
  ∃ (f : Addr) (fd : FuncData), mg x = some (.ref f) ∧ PySem.W.keepIn K (.ref f) = true ∧ Binds K fd ps [] ∧ FnOk P w K mg base CX0 k f fd ps sp
/-- the same, its one argument told by its name -/
def HasK (P : Program) (w : World) (K : Frag) (mg : Str → Option Value) (base : Heap) (k : Nat) (x : Str) (ps : List Str) (sp : Sp) : Prop :=
  ∃ (f : Addr) (fd : FuncData), mg x = some (.ref f) ∧ PySem.W.keepIn K (.ref f) = true ∧ Binds K fd ps [] ∧ KBinds K fd ps ps (fun us ws => us ++ ws) (fun vs zs => vs ++ zs) ∧ FnOk P w K mg base CX0 k f fd ps sp
theorem HasK.has {P : Program} {w : World} {K : Frag} {mg : Str → Option Value} {base : Heap} {k : Nat} {x : Str} {ps : List Str} {sp : Sp} (h : HasK P w K mg base k x ps sp) : Has P w K mg base k x ps sp := by
  obtain ⟨f, fd, a, b, c, _, d⟩ := h
  exact ⟨f, fd, a, b, c, d⟩
theorem has_of {P : Program} {w : World} {K : Frag} {mg : Str → Option Value} {base : Heap} {k : Nat} {x qual : Str} {st : Stmt} {f : Addr} {fd : FuncData} {ps : List Str} {sp : Sp} (F : Fun K x qual st f fd) (g : mg x = some (.ref f)) (b : Binds K fd ps []) (o : FnOk P w K mg base CX0 k f fd ps sp) : Has P w K mg base k x ps sp := ⟨f, fd, g, F.kp, b, o⟩
theorem hasK_of {P : Program} {w : World} {K : Frag} {mg : Str → Option Value} {base : Heap} {k : Nat} {x qual : Str} {st : Stmt} {f : Addr} {fd : FuncData} {ps : List Str} {sp : Sp} (F : Fun K x qual st f fd) (g : mg x = some (.ref f)) (b : Binds K fd ps []) (c : KBinds K fd ps ps (fun us ws => us ++ ws) (fun vs zs => vs ++ zs)) (o : FnOk P w K mg base CX0 k f fd ps sp) : HasK P w K mg base k x ps sp := ⟨f, fd, g, F.kp, b, c, o⟩
section
variable {X : Cx} {CX : CXT} {k : Nat} {f : Addr} {fd : FuncData} {ps ks : List Str} {sp : Sp} {x : Str} {p pos : Pos} {E : XK} {kws : List Keyword} {tk : TA} {g : List Value → List Value → List Value} {gV : List V → List V → List V}
def tCallKw (sp : Sp) (gV : List V → List V → List V) (E : XK) (tk : TA) : TE := fun σ H Q => tk σ H fun zs H2 => sp (gV [] zs) H2 Q E
theorem pe_callKw (F : FnOk X.prog X.w X.K X.mg X.base CX k f fd ps sp) (hr : Room k X.A) (hg : Gl X x) (hm : X.mg x = some (.ref f)) (hk : PySem.W.keepIn X.K (.ref f) = true) (hb : KBinds X.K fd ps ks g gV) (hx : Passes CX X E)
    (hkw : PK X kws tk) (hall : (backToKw pos (keywordEach kws X.env)).all (·.1.isSome) = true := by rfl) (hks : (backToKw pos (keywordEach kws X.env)).filterMap (·.1) = ks := by rfl)
    (hdb : (x == ("__debug__" : Str)) = false := by decide)
    (hpl : ((backTo pos (starEach [] X.env)).any (·.1) || (backToKw pos (keywordEach kws X.env)).any (·.1.isNone)) = false := by rfl) :
    PE X (.Call (.Name x p) [] kws pos) (tCallKw sp gV E tk) := by
  refine ⟨fun pins s σ H Q I h => ?_⟩
  refine wpAny_Call_Name_kw (ld_glob I hg hm ?_ hdb)
  refine PySem.W.callWith_KW0 (h₀ := X.base) I.ok.mod.kin hk hall (thn (hkw.run pos pins s σ H _ I h) fun ws s2 ⟨zs, H2, I2, rz, q2⟩ => ⟨I2.kIn, ?_⟩) hpl
  rw [hks]
  exact run_fnk F hr hb hx I2 .nil rz q2
end
theorem len_cs (x : Str) : x.length = (cs x).length := by
  show x.cps.size = _
  simp
theorem ixN_of {n j : Nat} (h : j < n) : ixN n (j : Int) = some j := by
  unfold ixN
  rw [if_pos (by omega), if_pos (by omega)]
  simp
theorem fm0 {m : Int} (h : 0 < m) (a : Int) : 0 ≤ a.fmod m := by
  rw [Int.fmod_eq_emod_of_nonneg _ (by omega)]
  exact Int.emod_nonneg _ (by omega)
theorem fm1 {m : Int} (h : 0 < m) (a : Int) : a.fmod m < m := by
  rw [Int.fmod_eq_emod_of_nonneg _ (by omega)]
  exact Int.emod_lt_of_pos _ h
/-- a while's word over a natural number -/
theorem while_n {c : TT} {tb : TS} {D : Ends} {σ : L2.St} {H : Hp} (Pv : Nat → L2.St → Hp → Prop) (m : Nat) (h0 : Pv m σ H)
    (hs : ∀ m σ H, Pv m σ H → c σ H fun b H1 => if b = true then ∃ N : L2.St → Hp → Prop, (∀ σ' H', N σ' H' → ∃ m', m' < m ∧ Pv m' σ' H') ∧ tb { D with nx := N, ct := N, bk := D.nx } σ H1 else D.nx σ H1) : tWhile c tb D σ H :=
  ⟨Pv, ⟨m, h0⟩, hs⟩
/-! # cases -/
def tNoE : TE := fun _ _ _ => False
theorem pe_no {X : Cx} {e : Expr} : PE X e tNoE := ⟨fun _ _ _ _ _ _ h => h.elim⟩
/-- True, False as a pattern -/
def rBool (c : Bool) : PatR := fun v _ Q => ∃ b, v = .bl b ∧ Q (if b = c then some [] else none)
theorem pp_bool {X : Cx} {pos : Pos} {c : Bool} : PPt X (.MatchSingleton (.bool c) pos) [] (rBool c) := by
  refine ⟨fun pins s σ H v u Q I r h => ?_⟩
  obtain ⟨b, rfl, q⟩ := h
  obtain rfl : u = Value.bool b := r
  refine wpAny_matchPattern_Singleton_bool ?_
  cases b <;> cases c
  · exact ⟨I, rfl, [], .nil, q⟩
  · exact ⟨I, q⟩
  · exact ⟨I, q⟩
  · exact ⟨I, rfl, [], .nil, q⟩
theorem either_bool {b : Bool} {H : Hp} {Q : Option (List V) → Prop} (h : Q (some [])) : rOr [rBool true, rBool false] (.bl b) H Q := by
  cases b
  · exact ⟨false, rfl, ⟨false, rfl, h⟩⟩
  · exact ⟨true, rfl, h⟩
def rNo : PatR := fun _ _ _ => False
theorem pcs_never {X : Cx} {cases : List MatchCase} : PCs X cases [([], rNo, fun _ _ _ => False)] := ⟨fun _ _ _ _ _ _ _ _ _ _ h => h.elim⟩
def Hit (r : PatR) (y : Str) : Prop := ∀ H Q, Q (some []) → r (.str y) H Q
def Miss (r : PatR) (y : Str) : Prop := ∀ H Q, Q none → r (.str y) H Q
theorem hit_lit {c : Str} : Hit (rLit c) c := fun H Q h => ⟨c, rfl, by rw [if_pos rfl]; exact h⟩
theorem miss_lit {c y : Str} (ne : y ≠ c) : Miss (rLit c) y := fun H Q h => ⟨y, rfl, by rw [if_neg ne]; exact h⟩
theorem hit_or {r : PatR} {rs : List PatR} {y : Str} (h : Hit r y) : Hit (rOr (r :: rs)) y := fun H Q q => h H _ q
theorem hit_or2 {r : PatR} {rs : List PatR} {y : Str} (m : Miss r y) (h : Hit (rOr rs) y) : Hit (rOr (r :: rs)) y := fun H Q q => m H _ (h H Q q)
theorem miss_or {r : PatR} {rs : List PatR} {y : Str} (m : Miss r y) (h : Miss (rOr rs) y) : Miss (rOr (r :: rs)) y := fun H Q q => m H _ (h H Q q)
theorem miss_or0 {y : Str} : Miss (rOr []) y := fun H Q q => q
theorem each_caps {H : Hp} : ∀ {ys : List V} {Q : Option (List V) → Prop}, Q (some ys) → rEach (List.replicate ys.length rCap) ys H Q
  | [], _, h => h
  | y :: ys, Q, h => by
    show rEach (List.replicate ys.length rCap) ys H _
    exact each_caps (ys := ys) (Q := fun o' => match o' with | none => Q none | some more => Q (some ([y] ++ more))) h
theorem case_hit {K : Frag} {n : Nat} {r : PatR} {rs : List PatR} {is : List Nat} {t : TS} {rest : List (List Nat × PatR × TS)} {a : Addr} {c : Str} {ys : List V} {D : Ends} {σ : L2.St} {H : Hp} (hq : SqT K H a (.str c :: ys)) (hh : Hit r c) (h : t D (setAll σ is ys) H)
    (hr : rs = List.replicate ys.length rCap := by rfl) (hn : n = ys.length + 1 := by rfl) : tCases ((is, rSeq K n (r :: rs), t) :: rest) (.ref a) D σ H := by
  subst hr
  subst hn
  refine ⟨a, _, rfl, hq, fun ne => absurd rfl ne, fun _ => ?_⟩
  refine hh H _ ?_
  exact each_caps (Q := fun o' => match o' with | none => tCases rest (.ref a) D σ H | some more => t D (setAll σ is ([] ++ more)) H) h
theorem case_miss {K : Frag} {n : Nat} {r : PatR} {rs : List PatR} {is : List Nat} {t : TS} {rest : List (List Nat × PatR × TS)} {a : Addr} {c : Str} {ys : List V} {D : Ends} {σ : L2.St} {H : Hp} (hq : SqT K H a (.str c :: ys)) (hh : Miss r c ∨ ys.length + 1 ≠ n) (h : tCases rest (.ref a) D σ H) :
    tCases ((is, rSeq K n (r :: rs), t) :: rest) (.ref a) D σ H := by
  rcases hh with hh | ne
  · exact ⟨a, _, rfl, hq, fun _ => h, fun _ => hh H _ h⟩
  · exact ⟨a, _, rfl, hq, fun _ => h, fun e => absurd e ne⟩
theorem ml {c y : Str} {n m : Nat} (ne : y ≠ c := by decide +kernel) : Miss (rLit c) y ∨ n ≠ m := .inl (miss_lit ne)
/-- what a piece's tuple holds -/
theorem pc_two {K : Frag} {H : Hp} {v : V} {k : Str} {d : PyData} (h : Dp K H v (.tuple [.str k, d])) : ∃ a x, v = .ref a ∧ SqT K H a [.str k, x] ∧ Dp K H x d := by
  obtain ⟨a, xs, rfl, hq, all⟩ := dp_tup h
  cases all with
  | cons h1 t1 =>
    obtain rfl := dp_str h1
    cases t1 with
    | cons h2 t2 =>
      cases t2
      exact ⟨a, _, rfl, hq, h2⟩
theorem pc_three {K : Frag} {H : Hp} {v : V} {k : Str} {d e : PyData} (h : Dp K H v (.tuple [.str k, d, e])) : ∃ a x y, v = .ref a ∧ SqT K H a [.str k, x, y] ∧ Dp K H x d ∧ Dp K H y e := by
  obtain ⟨a, xs, rfl, hq, all⟩ := dp_tup h
  cases all with
  | cons h1 t1 =>
    obtain rfl := dp_str h1
    cases t1 with
    | cons h2 t2 =>
      cases t2 with
      | cons h3 t3 =>
        cases t3
        exact ⟨a, _, _, rfl, hq, h2, h3⟩
/-- data that can be laid, no deeper than n -/
def Sh (n : Nat) (d : PyData) : Prop := d.canLay0 = true ∧ d.depth ≤ n
theorem sh_all {n : Nat} : ∀ {ds : List PyData}, (∀ d ∈ ds, Sh n d) → PyData.canLayAll0 ds = true ∧ PyData.depthAll ds ≤ n
  | [], _ => ⟨PyData.canLayAll0.eq_1, by rw [PyData.depthAll.eq_1]; exact Nat.zero_le _⟩
  | d :: ds, h => by
    have h1 := h d (.head _)
    have h2 := sh_all (n := n) (ds := ds) fun e m => h e (.tail _ m)
    exact ⟨by rw [PyData.canLayAll0.eq_2, h1.1, h2.1]; rfl, by rw [PyData.depthAll.eq_2]; exact Nat.max_le.mpr ⟨h1.2, h2.2⟩⟩
theorem sh_lst {n : Nat} {ds : List PyData} (h : ∀ d ∈ ds, Sh n d) : Sh (n + 1) (.list ds) := by
  have z := sh_all h
  exact ⟨by rw [PyData.canLay0.eq_5]; exact z.1, by rw [PyData.depth.eq_1]; omega⟩
theorem sh_tup {n : Nat} {ds : List PyData} (h : ∀ d ∈ ds, Sh n d) : Sh (n + 1) (.tuple ds) := by
  have z := sh_all h
  exact ⟨by rw [PyData.canLay0.eq_6]; exact z.1, by rw [PyData.depth.eq_2]; omega⟩
theorem sh_str {x : Str} (h : PyData.strOk x = true) : Sh 0 (.str x) := ⟨by rw [PyData.canLay0.eq_4]; exact h, Nat.le_of_eq rfl⟩
theorem sh_mono {n m : Nat} {d : PyData} (h : Sh n d) (l : n ≤ m) : Sh m d := ⟨h.1, Nat.le_trans h.2 l⟩
theorem sh_ok {n : Nat} {d : PyData} (h : Sh n d) (l : n ≤ 64 := by decide) : SeqAt.shaped d = true := by
  unfold SeqAt.shaped
  rw [h.1, decide_eq_true (Nat.le_trans h.2 l)]
  rfl
theorem eqv_nil (ds : List PyData) : PyData.eqv (.list ds) (.list []) = ds.isEmpty := by
  cases ds <;> rfl
/-- all of the answers of a walk -/
theorem lc_all {K : Frag} {a D : Addr} {xs : List V} {bs : List Bool} {H : Hp} {σ : L2.St} {vs : List Nat} {g : TG} {te : TE} {Qd : Hp → Prop} (hq : SqL K H a xs) (hD : H D = none) (hb : bs.length = xs.length) (hl : xs.length ≤ 1000)
    (turn : ∀ (i : Nat) (x : V) (b : Bool) (H' : Hp) (Q : VK), xs[i]? = some x → bs[i]? = some b → Same H H' → (∀ H4, Same H' H4 → Q (.bl b) H4) → g x (wipe σ vs) H' fun σ2 H2 => wipe σ2 vs = wipe σ vs ∧ te σ2 H2 Q)
    (hd : ∀ H', Same H H' → SqL K H' D (bs.map V.bl) → Qd H') :
    ∃ W : Nat → Nat → Hp → Prop, (∃ m, W 0 m (L2.upd H D (.lst []))) ∧ ∀ i m H, W i m H →
      ((Itl K a).stop i H ∧ Qd H) ∨ ((Itl K a).go i H ∧ ∃ Nx : Hp → Prop, (∀ H', Nx H' → ∃ m', m' < m ∧ W (i + 1) m' H') ∧ ∀ x H', (Itl K a).yld i H x H' → g x (wipe σ vs) H' fun σ2 H2 => wipe σ2 vs = wipe σ vs ∧ tYes σ2 H2 fun b H3 =>
        if b = true then te σ2 H3 fun y H4 => ∃ acc, H4 D = some (.lst acc) ∧ acc.length < sizeLine ∧ Nx (L2.upd H4 D (.lst (acc ++ [y]))) else Nx H3) := by
  refine lc_it (walk_list (xs := xs)) (fun i H' => Same H H' ∧ H' D = some (.lst ((bs.take i).map V.bl))) ⟨same_upd hD, upd_same⟩ (fun i H' _ e => e.1.seq hq) (fun i x H' H2 hi e y => ?_) (fun H' e => ?_)
  · obtain ⟨rfl, hx⟩ := y
    obtain ⟨s1, h1⟩ := e
    obtain ⟨b, hbi⟩ : ∃ b, bs[i]? = some b := ⟨_, List.getElem?_eq_getElem (by omega)⟩
    refine turn i x b H2 _ hx hbi s1 fun H4 s4 => ⟨_, s4 _ _ h1, ?_, same_upd2 (s1.trans s4) hD, ?_⟩
    · rw [List.length_map, List.length_take, sizeLine_eq]
      omega
    · rw [upd_same, take_snoc hbi, List.map_append]
      rfl
  · obtain ⟨s1, h1⟩ := e
    rw [← hb, List.take_length] at h1
    exact hd H' s1 (SqL.of h1)
def hide (H : Hp) (W : Addr) : Hp := fun b => if b = W then none else H b
theorem hide_same {H : Hp} {W : Addr} : Same (hide H W) H := fun b o h => by
  unfold hide at h
  by_cases e : b = W
  · rw [if_pos e] at h; cases h
  · rw [if_neg e] at h; exact h
theorem hide_upd {H : Hp} {W : Addr} {o : HO} : Same (hide H W) (hide (L2.upd H W o) W) := fun b u h => by
  unfold hide at h ⊢
  by_cases e : b = W
  · rw [if_pos e] at h; cases h
  · rw [if_neg e] at h ⊢
    rw [upd_ne e]
    exact h
theorem hide_ne {H : Hp} {W b : Addr} {o : HO} (h : H b = some o) (ne : b ≠ W) : hide H W b = some o := by
  unfold hide
  rw [if_neg ne]
  exact h
theorem hide_mono {H H' : Hp} {W : Addr} (s : Same H H') : Same (hide H W) (hide H' W) := fun b u h => by
  unfold hide at h ⊢
  by_cases e : b = W
  · rw [if_pos e] at h; cases h
  · rw [if_neg e] at h ⊢
    exact s b u h
/-- what was there before W came -/
theorem hide_of {H H' : Hp} {W : Addr} (s : Same H H') (h : H W = none) : Same H (hide H' W) := fun b u e => by
  unfold hide
  rw [if_neg (ne_of_none e h)]
  exact s b u e
end Qb
end PySem
namespace PySem
namespace Qb
open PySem.W PySem.Calls PyProof.Rows L2
/-! # errors that are caught and kept -/
/-- the error that was caught, at a: its class and its dict -/
def ErO (cls : Value) (d : Option Addr) (a : Addr) : HO := .ext fun h => ∃ (oe : Obj) (vs : Array Value), h.get? a = some oe ∧ Zc cls d oe ∧ oe.data = .fields vs
theorem erO_ok {P : Program} {w : World} {H : Hp} {h : Heap} {a : Addr} {cls : Value} {d : Option Addr} {oe : Obj} {vs : Array Value} (e : h.get? a = some oe) (z : Zc cls d oe) (f : oe.data = .fields vs) : ObjOk P w H h a (ErO cls d a) :=
  ⟨⟨oe, vs, e, z, f⟩, ⟨_, e⟩, fun h1 h2 ⟨o1, v1, e1, z1, f1⟩ k => ⟨o1, v1, k _ e1, z1, f1⟩⟩
section
variable {X : Cx} {pins : List (Addr × Obj)} {σ : L2.St} {H : Hp} {s : Shared}
/-- a thing that is there and was not spoken of is spoken of from here on -/
theorem inv_track {a : Addr} {o : HO} {oe : Obj} {vs : Array Value} (I : Inv X pins σ H s) (na : H a = none) (ha : s.heap.get? a = some oe) (hd : oe.data = .fields vs) (nL : a ≠ X.env.locals)
    (n0 : ∀ ob, X.s_0.heap.get? a ≠ some ob) (np : ∀ p ∈ X.pn ++ pins, p.1 ≠ a) (new : ObjOk X.prog X.w (L2.upd H a o) s.heap a o) : Inv X pins σ (L2.upd H a o) s where
  ok := I.ok
  os := I.os
  bare := I.bare
  base := {
    keep := I.base.keep
    slot := I.base.slot
    free := fun b ob e n hx => by
      rw [upd_ne (fun z : b = a => n0 ob (z ▸ e))]
      exact I.base.free b ob e n hx
    there := I.base.there
    tups := fun b xs e => by
      have q := I.base.tups b xs e
      rw [upd_ne (ne_of_none q na)]
      exact q
    frzs := fun b ob u e => by
      have q := I.base.frzs b ob u e
      rw [upd_ne (ne_of_none q na)]
      exact q
    tbls := fun b ps e => by
      obtain ⟨more, q⟩ := I.base.tbls b ps e
      exact ⟨more, by rw [upd_ne (ne_of_none q na)]; exact q⟩ }
  loc := I.loc
  cell := I.cell
  free := by
    rw [upd_ne (Ne.symm nL)]
    exact I.free
  freeC := fun x c e => by
    rw [upd_ne (fun z : c = a => by
      obtain ⟨v, ob, h1, h2⟩ := I.cell x c e
      rw [z, ha] at h1
      cases h1
      rw [hd] at h2
      cases h2)]
    exact I.freeC x c e
  pin := fun p hp => by
    obtain ⟨e, n, r⟩ := I.pin p hp
    exact ⟨e, by rw [upd_ne (np p hp)]; exact n, r⟩
  hok := fun b u e => by
    by_cases hb : b = a
    · subst hb
      rw [upd_same] at e
      cases e
      exact new
    · rw [upd_ne hb] at e
      refine (I.hok b u e).stay (fun c v _ q => q) (fun c q => ?_) (fun c xs q => ?_)
      · rw [upd_ne (ne_of_none q na)]
        exact q
      · rw [upd_ne (ne_of_none q na)]
        exact q
  len := I.len
theorem inv_into (a : Addr) (I : Inv X pins σ H s) : Inv (X.suite a (X.pn ++ pins)) [] σ H s where
  ok := I.ok.suite a _
  os := I.os
  bare := I.bare
  base := I.base
  loc := I.loc
  cell := I.cell
  free := I.free
  freeC := I.freeC
  pin := fun p hp => I.pin p (by rw [List.append_nil] at hp; exact hp)
  hok := I.hok
  len := I.len
theorem inv_outof {a : Addr} {qs : List (Addr × Obj)} (good : X.Ok) (I : Inv (X.suite a (X.pn ++ pins)) qs σ H s) : Inv X pins σ H s where
  ok := good
  os := I.os
  bare := I.bare
  base := I.base
  loc := I.loc
  cell := I.cell
  free := I.free
  freeC := I.freeC
  pin := fun p hp => I.pin p (List.mem_append_left _ hp)
  hok := I.hok
  len := I.len
end
/-- what 'except x as n' wishes, where it takes all that comes: slot i is n's, the error stands in the heap from here on -/
def wKeep (K : Frag) (c : Value) (i : Nat) (ts : Addr → Value → Option Addr → TS) (D : Ends) : WX := fun cls d σ H =>
  exmOne K cls c = some true ∧ ∀ a, H a = none → ts a cls d { nx := fun σ' H' => D.nx (σ'.set i none) H', rt := D.rt, bk := fun σ' H' => D.bk (σ'.set i none) H', ct := fun σ' H' => D.ct (σ'.set i none) H' } (σ.set i (some (.ref a))) (L2.upd H a (ErO cls d a))
section
variable {X : Cx} {x n : Str} {c : Value} {i : Nat} {body more : List Stmt} {b0 : Stmt} {p1 p2 p3 : Pos} {tb : WX → TS} {ts : Addr → Value → Option Addr → TS}
theorem ps_try_keep (stk : X.stack = X.env :: X.outer) (frm : X.env.frame = some X.env.locals) (noex : X.ex = []) (nd : X.N.Nodup) (hi : X.N[i]? = some n) (loc : X.env.kindOf n = some .local) (nm : Names X x c)
    (hb : ∀ (W : WX) (pn : List (Addr × Obj)) (xe : Value → Shared → Prop), Takes (X.tr pn xe) W → PassesOwn (model X.prog X.w) X.A X.env xe → PSs (X.tr pn xe) body (tb W))
    (hsu : ∀ (a : Addr) (cls : Value) (d : Option Addr) (pn : List (Addr × Obj)), PSs (X.suite a pn) (b0 :: more) (ts a cls d)) :
    PS X (.Try body [.ExceptHandler (some (.Name x p1)) (some n) (b0 :: more) p2] [] [] p3) (fun D σ H => tb (wKeep X.K c i ts D) D σ H) := by
  refine ⟨fun pins s σ H D I h => ?_⟩
  have good := I.ok
  have allF : X.A.frames = some (X.env :: X.outer) := good.frames.trans (congrArg some stk)
  have lo : L2.Loc X.env.scope n := .inl loc
  have caught : ∀ (u : Value) (z : Shared), XE (X.tr (X.pn ++ pins) fun e z0 => wpAny (model X.prog X.w) X.A (noteFrame e X.env) (fun _ z1 => wpAny (model X.prog X.w) X.A (setFlight e none) (fun _ z2 =>
      wpAny (model X.prog X.w) X.A (handleBy e X.env [.ExceptHandler (some (.Name x p1)) (some n) (b0 :: more) p2]) (SP X pins D) X.xe z2) X.xe z1) X.xe z0) (wKeep X.K c i ts D) u z →
      wpAny (model X.prog X.w) X.A (noteFrame u X.env) (fun _ z1 => wpAny (model X.prog X.w) X.A (setFlight u none) (fun _ z2 =>
      wpAny (model X.prog X.w) X.A (handleBy u X.env [.ExceptHandler (some (.Name x p1)) (some n) (b0 :: more) p2]) (SP X pins D) X.xe z2) X.xe z1) X.xe z := by
    rintro u z ⟨e, B, sI, qs, σ1, H1, cls, d, rfl, J0, inB, ups, air, ne, sameOs, gens, ofC, wish⟩
    have J : Inv X pins σ1 H1 sI := J0.ofTry good
    have air2 : Sky B (X.env :: X.outer) e (Zc cls d) X.env.locals z.heap := stk ▸ air
    refine Sky.land Zc.steady allF frm air2 fun h1 fly ups1 => ?_
    obtain ⟨oe1, vs1, get1, zc1, dat1⟩ := fly.there
    have notF : e ∉ frs (X.env :: X.outer) := fun hm => by
      obtain ⟨_, ob, eo, nofl⟩ := fly.2.2.1.mem hm
      rw [get1] at eo
      cases eo
      exact nofl _ dat1
    have notL : e ≠ X.env.locals := fun q => notF (List.mem_filterMap.mpr ⟨X.env, List.mem_cons_self, by rw [frm, q]⟩)
    have noI : sI.heap.get? e = none := by
      cases q : sI.heap.get? e with
      | none => rfl
      | some ob =>
        have q2 := inB e ob q (by show e ∉ frs X.stack; rw [stk]; exact notF)
        rw [fly.2.1] at q2
        cases q2
    have no0 : ∀ ob, X.s_0.heap.get? e ≠ some ob := fun ob q => by
      obtain ⟨ob2, q2⟩ := J.base.there e ob q (by rw [noex]; exact fun y => nomatch y)
      rw [noI] at q2
      cases q2
    have noP : ∀ p ∈ X.pn ++ pins, p.1 ≠ e := fun p hp q => by
      have q2 := (J.pin p hp).1
      rw [q, noI] at q2
      cases q2
    have S1 : Inv (X.suite e (X.pn ++ pins)) [] σ1 H1 { z with heap := h1 } := inv_into e (J.landed inB fly.1 (ups.trans ups1) sameOs gens)
    refine wpAny_handleBy_cons (codeAny_handlers_test ?_) (by intro q; cases q)
    have LT : Looks (model X.prog X.w) h1 (typeOf (.ref e)) cls := fun A Q E s k q => wpAny_typeOf_ref (k _ _ get1) (by rw [zc1.1]; exact q)
    have LM := exm_one (M := model X.prog X.w) S1.kIn LT ofC
    have named : ∀ {Q : Value → Shared → Prop} {E : Value → Shared → Prop}, Q c { z with heap := h1 } → wpAny (model X.prog X.w) (X.A.mark (some (.ref e))) (eval (.Name x p1) X.env) Q E { z with heap := h1 } := fun {Q E} q => by
      obtain ⟨hg, hdbg, hm | ⟨hm, hv, hnn⟩⟩ := nm
      · exact ld_glob (X := X.suite e (X.pn ++ pins)) S1 hg hm q hdbg
      · exact ld_blt (X := X.suite e (X.pn ++ pins)) S1 hg hm hv q hnn hdbg
    refine named (LM.here ?_)
    refine codeAny_handlers_suite_as ?_
    refine HandSPX.lands_againZ fly fun h2 fly2 ups2 => ?_
    have J2 : Inv X pins σ1 H1 { z with heap := h2 } := J.landed inB fly2.1 ((ups.trans ups1).trans ups2) sameOs gens
    obtain ⟨oe2, vs2, get2, zc2, dat2⟩ := fly2.there
    have S2 := inv_into e (inv_track (o := ErO cls d e) J2 ne get2 dat2 notL no0 noP (erO_ok get2 zc2 dat2))
    refine store_ok (X := X.suite e (X.pn ++ pins)) (v := .ref e) S2 nd hi lo rfl (fun s3 S3 => ?_) (.inr loc)
    refine wpAny_mono ((hsu e cls d (X.pn ++ pins)).run [] s3 _ _ _ S3 (wish e ne)) (fun fl s4 end4 => ?_) (fun _ _ y => y.elim)
    have bye : ∀ {σ4 : L2.St} {H4 : Hp} {Q : Shared → Prop}, Inv (X.suite e (X.pn ++ pins)) [] σ4 H4 s4 → (∀ s5, Inv X pins (σ4.set i none) H4 s5 → Q s5) →
        wpAny (model X.prog X.w) X.A (do bindName X.env n .none; unbindBehindTheSuite X.env n p2) (fun _ s5 => Q s5) X.xe s4 := fun {σ4 H4 Q} S4 q => gone_ok (inv_outof good S4) nd hi loc q
    cases fl with
    | next =>
      obtain ⟨σ4, H4, S4, q4⟩ := end4
      exact bye S4 fun s5 J5 => ⟨_, _, J5, q4⟩
    | brk =>
      obtain ⟨σ4, H4, S4, q4⟩ := end4
      exact bye S4 fun s5 J5 => ⟨_, _, J5, q4⟩
    | cont =>
      obtain ⟨σ4, H4, S4, q4⟩ := end4
      exact bye S4 fun s5 J5 => ⟨_, _, J5, q4⟩
    | ret u =>
      obtain ⟨v4, σ4, H4, S4, r4, q4⟩ := end4
      exact bye S4 fun s5 J5 => ⟨_, _, _, J5, r4, q4⟩
  refine wpAny_Try_except (wpAny_mono ((hb (wKeep X.K c i ts D) (X.pn ++ pins) _ caught PassesOwn.looking).run [] s σ H D (I.toTry _) h) (fun fl s1 end1 => ?_) fun _ _ y => y)
  cases fl with
  | next =>
    obtain ⟨σ1, H1, J1, q⟩ := end1
    exact wpAny_execs_nil ⟨σ1, H1, J1.ofTry good, q⟩
  | brk =>
    obtain ⟨σ1, H1, J1, q⟩ := end1
    exact ⟨σ1, H1, J1.ofTry good, q⟩
  | cont =>
    obtain ⟨σ1, H1, J1, q⟩ := end1
    exact ⟨σ1, H1, J1.ofTry good, q⟩
  | ret u =>
    obtain ⟨v, σ1, H1, J1, r, q⟩ := end1
    exact ⟨v, σ1, H1, J1.ofTry good, r, q⟩
end
/-! # the classes of errors -/
/-- what the written part says of one class of errors: its name x, its object at C, behind itself ms in the order of lookup; fI: the one __init__ -/
structure EC (K : Frag) (mg : Str → Option Value) (fI : Addr) (x : Str) (C : Addr) (ms : List Value) : Prop where
  gC : mg x = some (.ref C)
  cls : ∃ nm q N bs sn sub ab col dd k0 k1 k2 k3 k5,
    K.lookup C = some (excClassObj nm q C N bs ms true sn sub ab col dd k0 k1 k2 k3 k5 "ValueError.__new__")
  rv : HandSPX.refsVE ms = true
  sa : findIn K (.ref C) "__setattr__" = some (some (.builtin "object.__setattr__"))
  ga : findIn K (.ref C) "__getattribute__" = some (some (.builtin "BaseException.__getattribute__"))
  gg : findIn K (.ref C) "__getattr__" = some none
  no : findIn K (.ref C) "value" = some none
  iC : findIn K (.ref C) "__init__" = some (some (.ref fI))
  kC : keepIn K (.ref C) = true
  cc : findIn K (.ref C) "__class__" = some (some (.builtin "object.__class__"))
structure EG (K : Frag) (fI : Addr) : Prop where
  tI : typeIn K (.ref fI) = some (.type "function")
  hn : specialIn K (.builtin "object.__class__") "__get__" = some (some (.builtin "getset_descriptor.__get__"))
  ht : takesIn K (.builtin "object.__class__") = some true
theorem ec_mk {K : Frag} {mg : Str → Option Value} {h : Heap} {fI C N : Addr} {x nm q : Str} {ms bs : List Value} {sn : List Str} {sub : List Value} {ab : Bool} {col : Option Bool} {dd : Option Addr} {k0 k1 k2 k3 k5 : Option Value}
    (X : K.In h) (G : h.Ns mainGlobals mg) (a : nsIn K mainGlobals x = some (some (.ref C))) (l : K.lookup C = some (excClassObj nm q C N bs ms true sn sub ab col dd k0 k1 k2 k3 k5 "ValueError.__new__")) (rv : HandSPX.refsVE ms = true)
    (sa : findIn K (.ref C) "__setattr__" = some (some (.builtin "object.__setattr__"))) (ga : findIn K (.ref C) "__getattribute__" = some (some (.builtin "BaseException.__getattribute__"))) (gg : findIn K (.ref C) "__getattr__" = some none)
    (no : findIn K (.ref C) "value" = some none) (iC : findIn K (.ref C) "__init__" = some (some (.ref fI))) (kC : keepIn K (.ref C) = true) (cc : findIn K (.ref C) "__class__" = some (some (.builtin "object.__class__"))) : EC K mg fI x C ms :=
  ⟨mg_of X G a, ⟨nm, q, N, bs, sn, sub, ab, col, dd, k0, k1, k2, k3, k5, l⟩, rv, sa, ga, gg, no, iC, kC, cc⟩
section
variable {K : Frag} {mg : Str → Option Value} {fI C : Addr} {x : Str} {ms : List Value}
theorem EC.clsIs (T : EC K mg fI x C ms) : ∃ cd : ClassData, clsIn K C = some cd ∧ cd.mro = .ref C :: ms ∧ cd.hasDict = true := by
  obtain ⟨nm, q, N, bs, sn, sub, ab, col, dd, k0, k1, k2, k3, k5, hC⟩ := T.cls
  refine ⟨{ name := nm, bases := bs, mro := .ref C :: ms, ns := N, qualname := q, hasDict := true, slotNames := sn, subclasses := sub, abstract := ab, collection := col, hasDel := false }, ?_, rfl, rfl⟩
  unfold clsIn
  rw [hC] <;> rfl
theorem EC.mro (T : EC K mg fI x C ms) (b : Value) : mroIn K C b = some ((Value.ref C :: ms).contains b) := by
  obtain ⟨cd, h1, h2, _⟩ := T.clsIs
  unfold mroIn
  rw [h1, Option.bind_some, h2]
  rfl
theorem EC.below (T : EC K mg fI x C ms) (n : String) (h : HandSPX.veTail.contains (.type n) = true) : mroIn K C (.type n) = some true := by
  rw [T.mro, List.contains_cons, HandSPX.refsVE_contains n ms T.rv, h, Bool.or_true]
theorem EC.ty (T : EC K mg fI x C ms) : typeIn K (.ref C) = some (.type "type") := by
  obtain ⟨nm, q, N, bs, sn, sub, ab, col, dd, k0, k1, k2, k3, k5, hC⟩ := T.cls
  show (K.lookup C).map (·.cls) = _
  rw [hC] <;> rfl
theorem EC.oex (T : EC K mg fI x C ms) : OexC K C := by
  obtain ⟨nm, q, N, bs, sn, sub, ab, col, dd, k0, k1, k2, k3, k5, hC⟩ := T.cls
  exact { cls := ⟨nm, q, N, bs, ms, sn, sub, ab, col, dd, k0, k1, k2, k3, k5, hC, T.rv⟩, sa := T.sa, exC := T.below "BaseException" (by decide +kernel), tyC := T.ty, kC := T.kC }
theorem EC.kit (T : EC K mg fI x C ms) (G : EG K fI) {e : Addr} {oe : Obj} {od : Option Obj} : KitX K (.ref e) (.ref C) (fun h => InstAt h e oe C od) := by
  obtain ⟨cd, h1, _, _⟩ := T.clsIs
  exact kitx_exc (by rw [h1]; rfl) T.ga T.gg (T.below "BaseException" (by decide +kernel)) T.cc G.hn G.ht (T.below "object" (by decide +kernel))
/-- isinstance of an error of the class at C against another class of errors -/
theorem EC.one (T : EC K mg fI x C ms) {x' : Str} {D : Addr} {ms' : List Value} (T' : EC K mg fI x' D ms') : kitOne K (.ref C) (.ref D) = some ((Value.ref C :: ms).contains (.ref D)) := by
  unfold kitOne
  by_cases h : (Value.ref C == Value.ref D) = true
  · rw [if_pos h, List.contains_cons]
    have e : C = D := Value.ref.inj (beq_iff_eq.mp h)
    subst e
    simp
  · rw [if_neg h]
    obtain ⟨cd, h1, _, _⟩ := T'.clsIs
    show (if ((clsIn K D).isSome && typeIn K (.ref D) == some (.type "type")) = true then subIn K (.ref C) (.ref D) else none) = _
    rw [if_pos (by rw [h1, T'.ty]; rfl)]
    exact T.mro _
theorem EC.oneT (T : EC K mg fI x C ms) : kitOne K (.ref C) (.type "ValueError") = some true := by
  unfold kitOne
  rw [if_neg (fun q => Value.noConfusion (beq_iff_eq.mp q))]
  show (if kitMeta "ValueError" = true then subIn K (.ref C) (.type "ValueError") else none) = _
  rw [if_pos (by decide +kernel)]
  exact T.below "ValueError" (by decide +kernel)
/-- 'except D' takes an error of the class at C, D behind it in the order of lookup -/
theorem EC.takes (T : EC K mg fI x C ms) {x' : Str} {D : Addr} {ms' : List Value} (T' : EC K mg fI x' D ms') (h : (Value.ref C :: ms).contains (.ref D) = true) : exmOne K (.ref C) (.ref D) = some true := by
  have e1 : (subIn K (.ref D) (.type "BaseException") == some true) = true := by
    rw [show subIn K (.ref D) (.type "BaseException") = some true from T'.below "BaseException" (by decide +kernel)]
    rfl
  obtain ⟨cd, h1, _, _⟩ := T'.clsIs
  have e2 : ((clsIn K D).isSome && typeIn K (.ref D) == some (.type "type")) = true := by
    rw [h1, T'.ty]
    rfl
  show (if (subIn K (.ref D) (.type "BaseException") == some true) = true then (if ((clsIn K D).isSome && typeIn K (.ref D) == some (.type "type")) = true then subIn K (.ref C) (.ref D) else none) else none) = some true
  rw [if_pos e1, if_pos e2]
  show mroIn K C (.ref D) = some true
  rw [T.mro, h]
end
/-- at e: a caught error of the class at C that holds v -/
def ErrV (H : Hp) (e C : Addr) (v : V) : Prop := ∃ d, H e = some (ErO (.ref C) (some d) e) ∧ H d = some (.xd [(("value" : Str), v)])
theorem ErrV.same {H H' : Hp} {e C : Addr} {v : V} (h : ErrV H e C v) (s : Same H H') : ErrV H' e C v := by
  obtain ⟨d, h1, h2⟩ := h
  exact ⟨d, s _ _ h1, s _ _ h2⟩
theorem errv_inst {X : Cx} {pins : List (Addr × Obj)} {σ : L2.St} {H : Hp} {s : Shared} {C e : Addr} {v : V} (I : Inv X pins σ H s) (h : ErrV H e C v) : ∃ (oe od : Obj), InstAt s.heap e oe C (some od) ∧ (∃ u, lookIn "value" od = some (some u) ∧ RelV v u) := by
  obtain ⟨d, h1, h2⟩ := h
  have z1 : ObjOk X.prog X.w H s.heap e (ErO (.ref C) (some d) e) := I.hok e _ h1
  obtain ⟨⟨oe, vs, ge, zc, hf⟩, _, _⟩ := z1
  have z2 : ObjOk X.prog X.w H s.heap d (.xd [(("value" : Str), v)]) := I.hok d _ h2
  obtain ⟨mA, hns, hr⟩ := z2
  obtain ⟨od, hd, hl⟩ := lookIn_ns hns
  have l : List.lookup ("value" : Str) [(("value" : Str), v)] = some v := by simp [List.lookup]
  obtain ⟨u, hu, ru⟩ := RelO.some_of (v := v) (o := mA "value") (by rw [← l]; exact hr "value")
  exact ⟨oe, od, ⟨ge, zc.1, by unfold notCls; rw [hf] <;> rfl, by rw [zc.2]; exact hd⟩, u, by rw [hl, hu], ru⟩
/-- e.value, e an error -/
def tErrW (K : Frag) (mg : Str → Option Value) (fI : Addr) (te : TE) : TE := fun σ H Q => te σ H fun y H1 =>
  ∃ (e C : Addr) (v : V) (x : Str) (ms : List Value), y = .ref e ∧ EC K mg fI x C ms ∧ ErrV H1 e C v ∧ Q v H1
/-- isinstance(e, c), e an error -/
def rIsErrW (K : Frag) (mg : Str → Option Value) (fI : Addr) : List V → Hp → VK → Prop := fun xs H Q =>
  ∃ (e C : Addr) (v c : V) (u : Value) (b : Bool) (x : Str) (ms : List Value), xs = [.ref e, c] ∧ ClsV c u ∧ EC K mg fI x C ms ∧ ErrV H e C v ∧ kitOne K (.ref C) u = some b ∧ Q (.bl b) H
/-- what __init__ does for an error that is being made -/
def spInit (K : Frag) : Sp := fun vs H Q _ => ∃ (a C : Addr) (v : V), vs = [.ref a, v] ∧ OexC K C ∧ findIn K (.ref C) "value" = some none ∧ H a = some (exo a C none) ∧
  ∀ dx, H dx = none → dx ≠ a → Q .non (L2.upd (L2.upd H dx (exd dx [(("value" : Str), v)])) a (exo a C (some dx)))
section
variable {X : Cx} {fI C : Addr} {x : Str} {ms : List Value} {te : TE} {ta : TA} {e : Expr} {p pos : Pos}
theorem pe_errw (he : PE X e te) (hb : attributeBase e "value" X.env (eval e X.env) = eval e X.env := by rfl) :
    PE X (.Attribute e "value" pos) (tErrW X.K X.mg fI te) := by
  refine ⟨fun pins s σ H Q I h => attr_of hb (thn (he.run pins s σ H _ I h) fun u s1 hh => ?_)⟩
  obtain ⟨y, H1, I1, ry, e1, C1, v, x1, ms1, ey, T, er, q⟩ := hh
  subst ey
  obtain rfl : u = Value.ref e1 := ry
  obtain ⟨oe, od, J, u, hu, ru⟩ := errv_inst I1 er
  obtain ⟨cd, h1, h2, h3⟩ := T.clsIs
  have hd : hasDictIn X.K C1 = true := by
    show (clsIn X.K C1).any (·.hasDict) = true
    rw [h1]
    exact h3
  exact HandSPX.exc_get I1.kIn J T.ga T.gg (T.below "BaseException" (by decide +kernel)) (findObj_own hd T.no rfl hu) (handed_of ru) ⟨v, H1, I1.tok _, ru, q⟩
theorem call_isErrW (G : EG X.K fI) : CallR X (.builtin "isinstance") (rIsErrW X.K X.mg fI) := by
  intro pins s σ H xs us Q I r h
  obtain ⟨e, C, v, c, w, b, x, ms, rfl, k, T, er, ek, q⟩ := h
  obtain ⟨u1, u2, rfl, r1, r2⟩ := vals2 r
  obtain rfl : u1 = Value.ref e := r1
  have e2 := k.eq r2
  subst e2
  obtain ⟨oe, od, J, _⟩ := errv_inst I er
  exact kia_one (T.kit G) I.kIn J ek (fun z => nomatch z) fun tk => ⟨.bl b, H, I.tok tk, rfl, q⟩
end
/-- the error that was made, and let go -/
theorem init_end {K : Frag} {C : Addr} {v : V} {H1 : Hp} {Q : XK} (T : OexC K C) (no : findIn K (.ref C) "value" = some none)
    (q : ∀ d, H1 d = none → Q (.ref C) (some d) (L2.upd H1 d (.xd [(("value" : Str), v)]))) : [v].length ≤ 1000 ∧ ∀ a, H1 a = none → spInit K (.ref a :: ([v] ++ [])) (L2.upd H1 a (exo a C none))
      (fun y H2 => y = .non ∧ ∃ (d : Addr) (fs : List (Str × V)), H2 a = some (exo a C (some d)) ∧ H2 d = some (exd d fs) ∧ H1 d = none ∧ Q (.ref C) (some d) (L2.upd (del H2 a) d (.xd fs))) (fun _ _ _ => False) := by
  refine ⟨(by show 1 ≤ 1000; decide), fun a na => ⟨a, C, v, rfl, T, no, upd_same, fun dx nd ne => ⟨rfl, dx, [(("value" : Str), v)], upd_same, ?_, ?_, ?_⟩⟩⟩
  · rw [upd_ne ne, upd_same]
  · rw [upd_ne ne] at nd
    exact nd
  · rw [upd_ne ne] at nd
    have z := q dx nd
    refine cast (congrArg _ ?_) z
    funext b
    by_cases h1 : b = dx
    · rw [h1, upd_same, upd_same]
    · rw [upd_ne h1, upd_ne h1]
      by_cases h2 : b = a
      · rw [h2, del_same]
        exact na
      · rw [del_ne h2, upd_ne h2, upd_ne h1, upd_ne h2]
end Qb
end PySem
namespace PySem
namespace Qb
open PySem.W PySem.Calls PyProof.Rows L2
/-! # things that share no list: S holds the places of their lists -/
mutual
inductive Ow (K : Frag) (H : Hp) : V → PyData → List Addr → Prop where
  | non : Ow K H .non .none []
  | bl (b : Bool) : Ow K H (.bl b) (.bool b) []
  | int (i : Int) : Ow K H (.int i) (.int i) []
  | str (x : Str) : Ow K H (.str x) (.str x) []
  | lst {a : Addr} {xs : List V} {ds : List PyData} {S : List Addr} (h : H a = some (.lst xs)) (al : OwAll K H xs ds S) (n : a ∉ S) : Ow K H (.ref a) (.list ds) (a :: S)
  | tup {a : Addr} {xs : List V} {ds : List PyData} {S : List Addr} (h : SqT K H a xs) (al : OwAll K H xs ds S) : Ow K H (.ref a) (.tuple ds) S
inductive OwAll (K : Frag) (H : Hp) : List V → List PyData → List Addr → Prop where
  | nil : OwAll K H [] [] []
  | cons {v : V} {vs : List V} {d : PyData} {ds : List PyData} {S T : List Addr} (h : Ow K H v d S) (t : OwAll K H vs ds T) (n : ∀ b ∈ S, b ∉ T) : OwAll K H (v :: vs) (d :: ds) (S ++ T)
end
/-- H' is H but at the places S -/
def But (S : List Addr) (H H' : Hp) : Prop := ∀ b u, H b = some u → b ∉ S → H' b = some u
/-- lists stand at all places S -/
def Lis (S : List Addr) (H : Hp) : Prop := ∀ b ∈ S, ∃ xs, H b = some (.lst xs)
section
variable {K : Frag} {H H' H'' : Hp}
theorem But.of (s : Same H H') (S : List Addr) : But S H H' := fun b u e _ => s b u e
theorem But.refl (S : List Addr) : But S H H := fun _ _ e _ => e
theorem But.more {S T : List Addr} (h : But S H H') (l : ∀ b ∈ S, b ∈ T) : But T H H' := fun b u e n => h b u e fun m => n (l b m)
theorem But.trans {S : List Addr} (h : But S H H') (h' : But S H' H'') : But S H H'' := fun b u e n => h' b u (h b u e n) n
theorem But.put {a : Addr} {o : HO} : But [a] H (L2.upd H a o) := fun b u e n => by
  rw [upd_ne (fun z => n (by rw [z]; exact .head _))]
  exact e
theorem ow_lis {v : V} {d : PyData} {S : List Addr} (h : Ow K H v d S) : Lis S H :=
  Ow.rec (motive_1 := fun _ _ S _ => Lis S H) (motive_2 := fun _ _ S _ => Lis S H) (fun b m => by cases m) (fun _ b m => by cases m) (fun _ b m => by cases m) (fun _ b m => by cases m)
    (fun h _ _ ih b m => by
      rcases List.mem_cons.mp m with rfl | m
      · exact ⟨_, h⟩
      · exact ih b m) (fun _ _ ih => ih) (fun b m => by cases m) (fun _ _ _ i1 i2 b m => (List.mem_append.mp m).elim (i1 b) (i2 b)) h
theorem owAll_lis : ∀ {vs : List V} {ds : List PyData} {S : List Addr}, OwAll K H vs ds S → Lis S H
  | _, _, _, .nil => fun b m => by cases m
  | _, _, _, .cons h t _ => fun b m => (List.mem_append.mp m).elim (ow_lis h b) (owAll_lis t b)
theorem sqT_but {S : List Addr} {a : Addr} {xs : List V} (f : But S H H') (l : Lis S H) (h : SqT K H a xs) : SqT K H' a xs := by
  rcases h with (h | ⟨o, h⟩) | h
  · refine .inl (.inl (f _ _ h fun m => ?_))
    obtain ⟨ys, e⟩ := l _ m
    rw [h] at e
    cases e
  · refine .inl (.inr ⟨o, f _ _ h fun m => ?_⟩)
    obtain ⟨ys, e⟩ := l _ m
    rw [h] at e
    cases e
  · exact .inr h
theorem ow_frame {S : List Addr} (f : But S H H') (l : Lis S H) {v : V} {d : PyData} {T : List Addr} (h : Ow K H v d T) : (∀ b ∈ T, b ∉ S) → Ow K H' v d T :=
  Ow.rec (motive_1 := fun v d T _ => (∀ b ∈ T, b ∉ S) → Ow K H' v d T) (motive_2 := fun vs ds T _ => (∀ b ∈ T, b ∉ S) → OwAll K H' vs ds T) (fun _ => .non) (fun b _ => .bl b) (fun i _ => .int i) (fun x _ => .str x)
    (fun h _ n ih m => .lst (f _ _ h (m _ (.head _))) (ih fun b mb => m b (.tail _ mb)) n) (fun h _ ih m => .tup (sqT_but f l h) (ih m)) (fun _ => .nil)
    (fun _ _ n i1 i2 m => .cons (i1 fun b mb => m b (List.mem_append_left _ mb)) (i2 fun b mb => m b (List.mem_append_right _ mb)) n) h
theorem owAll_frame {S : List Addr} (f : But S H H') (l : Lis S H) : ∀ {vs : List V} {ds : List PyData} {T : List Addr}, OwAll K H vs ds T → (∀ b ∈ T, b ∉ S) → OwAll K H' vs ds T
  | _, _, _, .nil, _ => .nil
  | _, _, _, .cons h t n, m => .cons (ow_frame f l h fun b mb => m b (List.mem_append_left _ mb)) (owAll_frame f l t fun b mb => m b (List.mem_append_right _ mb)) n
theorem ow_same (s : Same H H') {v : V} {d : PyData} {T : List Addr} (h : Ow K H v d T) : Ow K H' v d T := ow_frame (S := []) (But.of s _) (fun b m => by cases m) h fun b _ z => by cases z
theorem owAll_same (s : Same H H') {v : List V} {d : List PyData} {T : List Addr} (h : OwAll K H v d T) : OwAll K H' v d T := owAll_frame (S := []) (But.of s _) (fun b m => by cases m) h fun b _ z => by cases z
theorem ow_dp {v : V} {d : PyData} {S : List Addr} (h : Ow K H v d S) : Dp K H v d :=
  Ow.rec (motive_1 := fun v d _ _ => Dp K H v d) (motive_2 := fun vs ds _ _ => DpAll K H vs ds) .non (fun b => .bl b) (fun i => .int i) (fun x => .str x) (fun h _ _ ih => .lst (SqL.of h) ih) (fun h _ ih => .tup h ih) .nil (fun _ _ _ i1 i2 => .cons i1 i2) h
theorem owAll_dp : ∀ {vs : List V} {ds : List PyData} {S : List Addr}, OwAll K H vs ds S → DpAll K H vs ds
  | _, _, _, .nil => .nil
  | _, _, _, .cons h t _ => .cons (ow_dp h) (owAll_dp t)
theorem owAll_add : ∀ {vs : List V} {ds : List PyData} {S : List Addr}, OwAll K H vs ds S → ∀ {v : V} {d : PyData} {T : List Addr}, Ow K H v d T → (∀ b ∈ S, b ∉ T) → ∃ U, OwAll K H (vs ++ [v]) (ds ++ [d]) U ∧ ∀ b, b ∈ U ↔ b ∈ S ∨ b ∈ T
  | _, _, _, .nil, v, d, T, h, _ => ⟨T ++ [], .cons h .nil (fun _ _ z => by cases z), fun b => by simp⟩
  | _, _, _, .cons (S := S1) (T := S2) h0 t n, v, d, T, h, m => by
    obtain ⟨U, hU, e⟩ := owAll_add t h fun b mb => m b (List.mem_append_right _ mb)
    refine ⟨S1 ++ U, .cons h0 hU fun b mb z => ?_, fun b => ?_⟩
    · rcases (e b).mp z with z | z
      · exact n b mb z
      · exact m b (List.mem_append_left _ mb) z
    · rw [List.mem_append, e, List.mem_append, or_assoc]
/-- a list of own things that is being made at D -/
def OwB (K : Frag) (H H' : Hp) (D : Addr) (ds : List PyData) : Prop := H D = none ∧ Same H (hide H' D) ∧ ∃ ys S, H' D = some (.lst ys) ∧ OwAll K H' ys ds S ∧ (∀ b ∈ S, H b = none) ∧ D ∉ S
theorem OwB.new {D : Addr} (n : H D = none) : OwB K H (L2.upd H D (.lst [])) D [] := ⟨n, hide_of (same_upd n) n, [], [], upd_same, .nil, (fun b m => by cases m), (fun m => by cases m)⟩
theorem OwB.base {D : Addr} {ds : List PyData} (b : OwB K H H' D ds) : Same H H' := b.2.1.trans hide_same
theorem OwB.there {D : Addr} {ds : List PyData} (b : OwB K H H' D ds) : ∃ ys, H' D = some (.lst ys) := by
  obtain ⟨n, s0, ys, S, h, r⟩ := b
  exact ⟨ys, h⟩
theorem OwB.same {D : Addr} {ds : List PyData} (b : OwB K H H' D ds) (s : Same H' H'') : OwB K H H'' D ds := by
  obtain ⟨n, s0, ys, S, h, a, nw, nd⟩ := b
  exact ⟨n, s0.trans (hide_mono s), ys, S, s _ _ h, owAll_same s a, nw, nd⟩
theorem OwB.put {H2 : Hp} {D : Addr} {ds : List PyData} (b : OwB K H H' D ds) (s : Same H' H2) : ∃ ys, H2 D = some (.lst ys) ∧ ys.length = ds.length ∧ ∀ v d T, Ow K H2 v d T → (∀ b ∈ T, H' b = none) → OwB K H (L2.upd H2 D (.lst (ys ++ [v]))) D (ds ++ [d]) := by
  have base := b.base
  obtain ⟨n, s0, ys, S, h, a, nw, nd⟩ := b
  refine ⟨ys, s _ _ h, dpLen (owAll_dp a), fun v d T hv nT => ?_⟩
  have ls := owAll_lis a
  have dj : ∀ b ∈ S, b ∉ T := fun b mb z => by
    obtain ⟨xs, e⟩ := ls b mb
    rw [nT b z] at e
    cases e
  have dT : D ∉ T := fun z => by
    have e := nT D z
    rw [h] at e
    cases e
  obtain ⟨U, hU, eU⟩ := owAll_add (owAll_same s a) hv dj
  have nU : D ∉ U := fun z => ((eU D).mp z).elim nd dT
  refine ⟨n, (s0.trans (hide_mono s)).trans hide_upd, _, U, upd_same, owAll_frame (S := [D]) But.put (fun b m => ?_) hU (fun b mb z => ?_), fun b mb => ?_, nU⟩
  · rcases List.mem_singleton.mp m with rfl
    exact ⟨_, s _ _ h⟩
  · rcases List.mem_singleton.mp z with rfl
    exact nU mb
  · rcases (eU b).mp mb with mb | mb
    · exact nw b mb
    · cases e : H b with
      | none => rfl
      | some u =>
        have z := base b u e
        rw [nT b mb] at z
        cases z
end
/-! # data by its depth -/
def Pl0 (d : PyData) : Prop := (∃ x, d = .str x) ∨ (∃ b, d = .bool b) ∨ (∃ i, d = .int i) ∨ d = .none
def Pl : Nat → PyData → Prop
  | 0, d => Pl0 d
  | n + 1, d => Pl0 d ∨ ∃ ds : List PyData, (d = .list ds ∨ d = .tuple ds) ∧ ds.length ≤ 1000 ∧ ∀ e ∈ ds, Pl n e
theorem pl_cases {n : Nat} {d : PyData} (hp : Pl n d) : Pl0 d ∨ ∃ m ds, n = m + 1 ∧ (d = .list ds ∨ d = .tuple ds) ∧ ds.length ≤ 1000 ∧ ∀ e ∈ ds, Pl m e := by
  cases n with
  | zero => exact .inl hp
  | succ m =>
    rcases hp with h | ⟨ds, h⟩
    · exact .inl h
    · exact .inr ⟨m, ds, rfl, h⟩
theorem kan {K : PySem.W.Frag} {t c : Value} {cs : List Value} {r : Bool} (h : PySem.W.kitOne K t c = some false) (hr : PySem.W.kitAny K t cs = some r) : PySem.W.kitAny K t (c :: cs) = some r := kitAny_cons h (fun _ => hr) (fun z => by cases z)
theorem kay {K : PySem.W.Frag} {t c : Value} {cs : List Value} (h : PySem.W.kitOne K t c = some true) : PySem.W.kitAny K t (c :: cs) = some true := kitAny_cons h (fun z => by cases z) (fun _ => rfl)
theorem ty_lst {K : Frag} {H : Hp} {a : Addr} {xs : List V} (h : SqL K H a xs) : TyX K H (.ref a) (.type "list") := by
  rcases h with (h | ⟨o, h⟩) | ⟨o, its, n, h, c, _⟩
  · exact .base (.lst h)
  · exact .base (.frz h)
  · exact .kList h c
theorem ty_tup {K : Frag} {H : Hp} {a : Addr} {xs : List V} (h : SqT K H a xs) : TyX K H (.ref a) (.type "tuple") := by
  rcases h with (h | ⟨o, h⟩) | ⟨o, its, n, h, c, _⟩
  · exact .base (.tup h)
  · exact .fTuple h
  · exact .kTuple h c
/-- data that is no list and no tuple, with its type -/
theorem pl0_ty {K : Frag} {H : Hp} {v : V} {d : PyData} (h : Pl0 d) (dp : Dp K H v d) : Ow K H v d [] ∧ ∃ n, TyX K H v (.type n) ∧ (n = "str" ∨ n = "bool" ∨ n = "int" ∨ n = "NoneType") := by
  rcases h with ⟨x, rfl⟩ | ⟨x, rfl⟩ | ⟨x, rfl⟩ | rfl
  · cases dp
    exact ⟨.str x, _, .base (.str x), .inl rfl⟩
  · cases dp
    exact ⟨.bl x, _, .base (.bl x), .inr (.inl rfl)⟩
  · cases dp
    exact ⟨.int x, _, .base (.int x), .inr (.inr (.inl rfl))⟩
  · cases dp
    exact ⟨.non, _, .base .non, .inr (.inr (.inr rfl))⟩
theorem flat_no {K : Frag} {n : String} (h : n = "str" ∨ n = "bool" ∨ n = "int" ∨ n = "NoneType") : kitOne K (.type n) (.type "list") = some false ∧ kitOne K (.type n) (.type "tuple") = some false ∧ kitOne K (.type n) (.type "dict") = some false := by
  rcases h with rfl | rfl | rfl | rfl
  · exact ⟨kit_ty (by decide +kernel), kit_ty (by decide +kernel), kit_ty (by decide +kernel)⟩
  · exact ⟨kit_ty (by decide +kernel), kit_ty (by decide +kernel), kit_ty (by decide +kernel)⟩
  · exact ⟨kit_ty (by decide +kernel), kit_ty (by decide +kernel), kit_ty (by decide +kernel)⟩
  · exact ⟨kit_ty (by decide +kernel), kit_ty (by decide +kernel), kit_ty (by decide +kernel)⟩
/-- an own copy is made -/
def spOw (K : Frag) : Nat → Sp
  | 0 => fun _ _ _ _ => False
  | n + 1 => fun vs H Q _ => ∃ (v : V) (d : PyData), vs = [v] ∧ Dp K H v d ∧ Pl n d ∧ ∀ (H' : Hp) (u : V) (S : List Addr), Same H H' → Ow K H' u d S → (∀ b ∈ S, H b = none) → Q u H'
/-- what was own is spoilt: nothing but its lists changes -/
def spSl (K : Frag) : Nat → Sp
  | 0 => fun _ _ _ _ => False
  | n + 1 => fun vs H Q _ => ∃ (v : V) (d : PyData) (S : List Addr), vs = [v] ∧ Ow K H v d S ∧ Pl n d ∧ ∀ (H' : Hp), But S H H' → Lis S H' → Q .non H'
end Qb
end PySem
namespace PySem
namespace Qb
open PySem.W PySem.Calls PyProof.Rows L2
/-! # sums, shown and read -/
inductive Sm where
  | num (n : Int)
  | of (w : Str)
  | one (s : Str) (a : Sm)
  | two (s : Str) (a b : Sm)
  | three (s : Str) (a b c : Sm)
def Sm.d : Sm → PyData
  | .num n => .tuple [.str "number", .int n]
  | .of w => .tuple [.str "of", .str w]
  | .one s a => .tuple [.str s, a.d]
  | .two s a b => .tuple [.str s, a.d, b.d]
  | .three s a b c => .tuple [.str s, a.d, b.d, c.d]
abbrev L := List Nat
def digC : L := [48, 49, 50, 51, 52, 53, 54, 55, 56, 57]
def staC : L := cs ("abcdefghijklmnopqrstuvwxyzABCDEFGHIJKLMNOPQRSTUVWXYZ_" : Str)
def namC : L := cs ("abcdefghijklmnopqrstuvwxyzABCDEFGHIJKLMNOPQRSTUVWXYZ_0123456789" : Str)
def wsC : L := [32, 10]
/-- the signs of two parts in the order in which they are looked for -/
def tpk : List (Str × L) := [("&&", [38, 38]), ("||", [124, 124]), ("<=", [60, 61]), (">=", [62, 61]), ("==", [61, 61]), ("!=", [33, 61]), ("<", [60]), (">", [62]), ("*", [42]), ("/", [47]), ("^", [94]), ("+", [43]), ("-", [45])]
theorem tpk_cs : ∀ p ∈ tpk, cs p.1 = p.2 := by decide +kernel
def rks : List (Str × Nat) := [("||", 2), ("&&", 3), ("==", 4), ("!=", 4), ("<", 5), ("<=", 5), (">", 5), (">=", 5), ("+", 6), ("-", 6), ("*", 7), ("/", 7), ("^", 7)]
def rk (s : Str) : Nat := (rks.lookup s).getD 0
def isOp (s : Str) : Bool := (rks.lookup s).isSome
theorem tpk_op : ∀ p ∈ tpk, isOp p.1 = true ∧ 2 ≤ rk p.1 ∧ rk p.1 ≤ 7 := by decide +kernel
theorem op_tpk {s : Str} (h : isOp s = true) : ∃ c, (s, c) ∈ tpk := by
  have key : ∀ q ∈ rks, ∃ p ∈ tpk, p.1 = q.1 := by decide +kernel
  unfold isOp at h
  obtain ⟨n, hn⟩ := Option.isSome_iff_exists.mp h
  have m : (s, n) ∈ rks := by
    have g : ∀ (l : List (Str × Nat)), l.lookup s = some n → (s, n) ∈ l := by
      intro l
      induction l with
      | nil => intro z; cases z
      | cons p l ih =>
        intro z
        obtain ⟨a, b⟩ := p
        rw [List.lookup_cons] at z
        cases e : (s == a) with
        | true =>
          rw [e] at z
          cases z
          obtain rfl := beq_iff_eq.mp e
          exact .head _
        | false =>
          rw [e] at z
          exact .tail _ (ih z)
    exact g _ hn
  obtain ⟨⟨s', c⟩, mp, e⟩ := key _ m
  exact ⟨c, by rw [← (show s' = s from e)]; exact mp⟩
/-! ## shown -/
def Sm.rank : Sm → Nat
  | .num _ => 9
  | .of _ => 9
  | .one _ _ => 8
  | .two s _ _ => rk s
  | .three _ _ _ _ => 1
def isNm (l : L) : Bool := match l with
  | [] => false
  | c :: r => decide (c ∈ staC) && r.all fun d => decide (d ∈ namC)
def aheadC (s : Str) : L := if s = "no" then [33] else [45]
def par (b : Bool) (l : L) : L := if b then 40 :: (l ++ [41]) else l
def Sm.shw : Sm → L
  | .num n => cs (Str.ofString (toString n))
  | .of w => if isNm (cs w) then cs w else 36 :: cs w
  | .one s a => aheadC s ++ par (decide (a.rank < 8)) a.shw
  | .two s a b => par (decide (a.rank < rk s)) a.shw ++ 32 :: (cs s ++ 32 :: par (decide (b.rank < rk s + 1)) b.shw)
  | .three _ a b c => par (decide (a.rank < 2)) a.shw ++ 32 :: 63 :: 32 :: (b.shw ++ 32 :: 58 :: 32 :: par (decide (c.rank < 1)) c.shw)
/-! ## read -/
def spc (r : L) : L := r.dropWhile fun c => decide (c ∈ wsC)
def tpSign (r : L) : Option (Str × L) := tpk.find? fun p => p.2.isPrefixOf r
def digVal (l : L) : Nat := l.foldl (fun n c => 10 * n + (c - 48)) 0
def rdDig (r : L) : Option (L × L) :=
  let d := r.takeWhile fun c => decide (c ∈ digC)
  if d = [] ∨ (d.head? = some 48 ∧ 1 < d.length) then none else some (d, r.dropWhile fun c => decide (c ∈ digC))
def rdPlc : L → Option (L × L)
  | 35 :: r => some ([35], r)
  | 63 :: r => some ([63], r)
  | r => rdDig r
def st (l : L) : Str := ⟨l.toArray⟩
theorem cs_st (l : L) : cs (st l) = l := by simp [st, cs]
theorem st_cs (x : Str) : st (cs x) = x := by
  obtain ⟨a⟩ := x
  show (⟨a.toList.toArray⟩ : Str) = ⟨a⟩
  rw [Array.toArray_toList]
abbrev Rd := L → Option (Sm × L)
def loopW (two : Nat → Rd) : Nat → Nat → Sm → Rd
  | 0, _, _, _ => none
  | m + 1, l, t, r => match tpSign r with
    | none => some (t, r)
    | some p => if l ≤ rk p.1 then (match two (rk p.1 + 1) (r.drop p.2.length) with
        | none => none
        | some (u, r2) => loopW two m l (.two p.1 t u) r2) else some (t, r)
def sumF (sum : Rd) (two : Nat → Rd) : Rd := fun r => match two 2 r with
  | none => none
  | some (t, 63 :: r2) => (match sum r2 with
    | some (a, 58 :: r3) => (match sum r3 with
      | none => none
      | some (b, r4) => some (.three "choose" t a b, r4))
    | _ => none)
  | some (t, r1) => some (t, r1)
def twoF (two : Nat → Rd) (ahead : Rd) : Nat → Rd := fun l r => match ahead r with
  | none => none
  | some (t, r1) => loopW two (r1.length + 1) l t r1
def aheadF (ahead plain : Rd) : Rd := fun r => match spc r with
  | 45 :: r1 => (match ahead r1 with
    | none => none
    | some (t, r2) => some (.one "minus" t, r2))
  | 33 :: r1 => (match ahead r1 with
    | none => none
    | some (t, r2) => some (.one "no" t, r2))
  | r1 => (match plain r1 with
    | none => none
    | some (t, r2) => some (t, spc r2))
def plainF (sum : Rd) : Rd := fun r => match r with
  | 40 :: r1 => (match sum r1 with
    | some (t, 41 :: r2) => some (t, r2)
    | _ => none)
  | 36 :: r1 => (match rdPlc r1 with
    | none => none
    | some (w, r2) => some (.of (st w), r2))
  | c :: r1 => if c ∈ staC then some (.of (st ((c :: r1).takeWhile fun d => decide (d ∈ namC))), (c :: r1).dropWhile fun d => decide (d ∈ namC)) else (match rdDig (c :: r1) with
    | none => none
    | some (d, r2) => some (.num (digVal d), r2))
  | [] => none
structure Rds where
  sum : Rd
  two : Nat → Rd
  ahead : Rd
  plain : Rd
def rds : Nat → Rds
  | 0 => ⟨fun _ => none, fun _ _ => none, fun _ => none, fun _ => none⟩
  | n + 1 => let p := rds n; ⟨sumF p.sum p.two, twoF p.two p.ahead, aheadF p.ahead p.plain, plainF p.sum⟩
end Qb
end PySem
namespace PySem
namespace Qb
open PySem.W PySem.Calls PyProof.Rows L2
/-! # what is read says of what was read -/
def Sm.pcs : Sm → Nat
  | .num _ => 0
  | .of _ => 0
  | .one _ a => a.pcs + if a.rank < 8 then 1 else 0
  | .two s a b => (a.pcs + if a.rank < rk s then 1 else 0) + (b.pcs + if b.rank < rk s + 1 then 1 else 0)
  | .three _ a b c => (a.pcs + if a.rank < 2 then 1 else 0) + b.pcs + (c.pcs + if c.rank < 1 then 1 else 0)
def Sm.pcl (l : Nat) (t : Sm) : Nat := t.pcs + if t.rank < l then 1 else 0
theorem pcl_mono {l m : Nat} {t : Sm} (h : l ≤ m) : t.pcl l ≤ t.pcl m := by
  unfold Sm.pcl
  by_cases a : t.rank < l
  · rw [if_pos a, if_pos (by omega)]
    exact Nat.le_refl _
  · rw [if_neg a]
    omega
theorem pcl_eq {l : Nat} {t : Sm} (h : l ≤ t.rank) : t.pcl l = t.pcs := by
  unfold Sm.pcl
  rw [if_neg (by omega)]
  rfl
def Sm.isz : Sm → Nat
  | .num _ => 0
  | .of _ => 0
  | .one _ a => 1 + a.isz
  | .two _ a b => 1 + a.isz + b.isz
  | .three _ a b c => 1 + a.isz + b.isz + c.isz
/-- how long its repr may be -/
def Sm.rl : Sm → Nat
  | .num n => 12 + (toString n).length
  | .of w => 10 + w.length
  | .one _ a => 11 + a.rl
  | .two _ a b => 10 + a.rl + b.rl
  | .three _ a b c => 16 + a.rl + b.rl + c.rl
def safe (c : Nat) : Prop := c ∈ namC ∨ c = 35 ∨ c = 63
def Sm.good : Sm → Prop
  | .num n => 0 ≤ n ∧ n < 10 ^ 80
  | .of w => ∀ c ∈ cs w, safe c
  | .one s a => (s = "minus" ∨ s = "no") ∧ a.good
  | .two s a b => isOp s = true ∧ a.good ∧ b.good
  | .three s a b c => s = "choose" ∧ a.good ∧ b.good ∧ c.good
def cnt (p : L) : Nat := p.countP fun c => c == 40
def w2c (c : Nat) : Nat := if c ∈ [45, 33, 60, 62, 43, 42, 47, 94, 58] then 2 else if c ∈ [38, 124, 61] then 1 else 0
def w2 (p : L) : Nat := (p.map w2c).sum
theorem cnt_app (a b : L) : cnt (a ++ b) = cnt a + cnt b := List.countP_append ..
theorem w2_app (a b : L) : w2 (a ++ b) = w2 a + w2 b := by
  unfold w2
  rw [List.map_append, List.sum_append]
theorem tpk_w2 : ∀ p ∈ tpk, 2 ≤ w2 p.2 ∧ 1 ≤ p.2.length := by decide +kernel
/-- no row of digits is longer than k -/
def Rn (k : Nat) (r : L) : Prop := ∀ p q s, r = p ++ (q ++ s) → (∀ c ∈ q, c ∈ digC) → q.length ≤ k
theorem Rn.tail {k : Nat} {p r : L} (h : Rn k (p ++ r)) : Rn k r := fun p' q s e d => h (p ++ p') q s (by rw [e, List.append_assoc]) d
structure Ate (r : L) (l : Nat) (t : Sm) (p r' : L) : Prop where
  eq : r = p ++ r'
  pc : t.pcl l ≤ cnt p
  good : t.good
  sz : 2 * t.isz ≤ w2 p
  rl : t.rl ≤ 14 * p.length
  ne : 1 ≤ p.length
def NoNext (l : Nat) (r : L) : Prop := ∀ p, tpSign r = some p → rk p.1 < l
theorem tpSign_mem {r : L} {p : Str × L} (h : tpSign r = some p) : p ∈ tpk ∧ ∃ r', r = p.2 ++ r' ∧ r.drop p.2.length = r' := by
  have h1 := List.mem_of_find?_eq_some h
  have h2 := List.find?_some h
  obtain ⟨r', e⟩ := List.isPrefixOf_iff_prefix.mp h2
  exact ⟨h1, r', e.symm, by rw [← e]; simp⟩
theorem drop_pre {q : Nat → Bool} (r : L) : ∃ p, r = p ++ r.dropWhile q ∧ (r.takeWhile q) = p := ⟨r.takeWhile q, (List.takeWhile_append_dropWhile ..).symm, rfl⟩
theorem spc_pre (r : L) : ∃ p, r = p ++ spc r := let ⟨p, e, _⟩ := drop_pre (q := fun c => decide (c ∈ wsC)) r; ⟨p, e⟩
theorem loop_ate {two : Nat → Rd} (k : Nat) (H : ∀ l r t r', l ≤ 8 → Rn k r → two l r = some (t, r') → (∃ p, Ate r l t p r') ∧ NoNext l r') {l : Nat} (hl : l ≤ 8) :
    ∀ (m : Nat) (t : Sm) (r r0 p0 : L) (t' : Sm) (r' : L), Rn k r0 → Ate r0 l t p0 r → (∀ p, tpSign r = some p → t.pcl (rk p.1) ≤ cnt p0) → loopW two m l t r = some (t', r') →
      (∃ p, Ate r0 l t' p r') ∧ NoNext l r'
  | 0, t, r, r0, p0, t', r', _, _, _, e => by cases e
  | m + 1, t, r, r0, p0, t', r', rn, A, nx, e => by
    unfold loopW at e
    cases hs : tpSign r with
    | none =>
      rw [hs] at e
      cases e
      exact ⟨⟨p0, A⟩, fun p z => by rw [hs] at z; cases z⟩
    | some p =>
      rw [hs] at e
      dsimp only at e
      obtain ⟨mp, r1, e1, ed⟩ := tpSign_mem hs
      by_cases c : l ≤ rk p.1
      · rw [if_pos c, ed] at e
        have rn1 : Rn k r1 := by
          rw [A.eq, e1] at rn
          exact (rn.tail).tail
        have hk := tpk_op p mp
        cases h2 : two (rk p.1 + 1) r1 with
        | none =>
          rw [h2] at e
          cases e
        | some o =>
          obtain ⟨u, r2⟩ := o
          rw [h2] at e
          dsimp only at e
          obtain ⟨⟨q, B⟩, nb⟩ := H _ _ _ _ (by omega) rn1 h2
          have w := tpk_w2 p mp
          have A' : Ate r0 l (.two p.1 t u) (p0 ++ (p.2 ++ q)) r2 := by
            refine ⟨?_, ?_, ⟨hk.1, A.good, B.good⟩, ?_, ?_, ?_⟩
            · rw [A.eq, e1, B.eq]
              simp
            · rw [pcl_eq (show l ≤ (Sm.two p.1 t u).rank from c), cnt_app, cnt_app]
              have z1 := nx p hs
              have z2 := B.pc
              show (t.pcs + if t.rank < rk p.1 then 1 else 0) + (u.pcs + if u.rank < rk p.1 + 1 then 1 else 0) ≤ _
              unfold Sm.pcl at z1 z2
              omega
            · show 2 * (1 + t.isz + u.isz) ≤ _
              rw [w2_app, w2_app]
              have := A.sz
              have := B.sz
              omega
            · show 10 + t.rl + u.rl ≤ _
              have := A.rl
              have := B.rl
              simp only [List.length_append]
              omega
            · have := A.ne
              simp only [List.length_append]
              omega
          refine loop_ate k H hl m _ r2 r0 _ t' r' rn A' (fun p' z => ?_) e
          have z1 := nb p' z
          rw [pcl_eq (show rk p'.1 ≤ (Sm.two p.1 t u).rank from Nat.le_of_lt_succ z1), ← pcl_eq (show l ≤ (Sm.two p.1 t u).rank from c)]
          exact A'.pc
      · rw [if_neg c] at e
        cases e
        refine ⟨⟨p0, A⟩, fun p' z => ?_⟩
        rw [hs] at z
        cases z
        omega
theorem Ate.app {r r' : L} {l : Nat} {t : Sm} {p q : L} (A : Ate r l t p r') (x : L) (e : r' = q ++ x) : Ate r l t (p ++ q) x := by
  refine ⟨by rw [A.eq, e, List.append_assoc], ?_, A.good, ?_, ?_, ?_⟩
  · rw [cnt_app]
    exact Nat.le_trans A.pc (by omega)
  · rw [w2_app]
    exact Nat.le_trans A.sz (by omega)
  · have := A.rl
    rw [List.length_append]
    omega
  · have := A.ne
    rw [List.length_append]
    omega
theorem Ate.pre {r r' : L} {l : Nat} {t : Sm} {p q x : L} (A : Ate r l t p r') (e : x = q ++ r) : Ate x l t (q ++ p) r' := by
  refine ⟨by rw [e, A.eq, List.append_assoc], ?_, A.good, ?_, ?_, ?_⟩
  · rw [cnt_app]
    exact Nat.le_trans A.pc (by omega)
  · rw [w2_app]
    exact Nat.le_trans A.sz (by omega)
  · have := A.rl
    rw [List.length_append]
    omega
  · have := A.ne
    rw [List.length_append]
    omega
theorem Ate.le {r r' : L} {l m : Nat} {t : Sm} {p : L} (A : Ate r l t p r') (h : m ≤ l) : Ate r m t p r' := ⟨A.eq, Nat.le_trans (pcl_mono h) A.pc, A.good, A.sz, A.rl, A.ne⟩
theorem digVal_lt : ∀ (l : L), (∀ c ∈ l, c ∈ digC) → digVal l < 10 ^ l.length := by
  have key : ∀ (l : L) (n : Nat), (∀ c ∈ l, c ∈ digC) → l.foldl (fun n c => 10 * n + (c - 48)) n < (n + 1) * 10 ^ l.length := by
    intro l
    induction l with
    | nil => intro n _; simp
    | cons c l ih =>
      intro n h
      have hc : c - 48 ≤ 9 := (by decide +kernel : ∀ c ∈ digC, c - 48 ≤ 9) c (h c (.head _))
      have z := ih (10 * n + (c - 48)) fun d m => h d (.tail _ m)
      rw [List.foldl_cons, List.length_cons, Nat.pow_succ]
      refine Nat.lt_of_lt_of_le z ?_
      rw [show (n + 1) * (10 ^ l.length * 10) = (10 * n + 10) * 10 ^ l.length by rw [Nat.mul_comm (10 ^ l.length) 10, ← Nat.mul_assoc]; congr 1; omega]
      exact Nat.mul_le_mul_right _ (by omega)
  intro l h
  have z := key l 0 h
  rw [Nat.zero_add, Nat.one_mul] at z
  exact z
theorem tw_mem {p : Nat → Bool} : ∀ {l : L} {c : Nat}, c ∈ l.takeWhile p → p c = true
  | [], c, m => by cases m
  | d :: l, c, m => by
    by_cases h : p d = true
    · rw [List.takeWhile_cons_of_pos h] at m
      rcases List.mem_cons.mp m with rfl | m
      · exact h
      · exact tw_mem m
    · rw [List.takeWhile_cons_of_neg h] at m
      cases m
theorem dig_ate {k : Nat} {r d r2 : L} (h : rdDig r = some (d, r2)) : r = d ++ r2 ∧ 1 ≤ d.length ∧ (∀ c ∈ d, c ∈ digC) := by
  unfold rdDig at h
  dsimp only at h
  split at h
  · cases h
  · rename_i hn
    cases h
    refine ⟨(List.takeWhile_append_dropWhile ..).symm, ?_, fun c m => ?_⟩
    · cases e : r.takeWhile fun c => decide (c ∈ digC) with
      | nil => rw [e] at hn; exact (hn (.inl rfl)).elim
      | cons c l => simp
    · have z := tw_mem m
      simpa using z
theorem cnt_ge (p : L) : 0 ≤ cnt p := Nat.zero_le _
theorem len_str_int {n : Nat} {k : Nat} (h : n < 10 ^ k) (hk : 1 ≤ k) : (toString (n : Int)).length ≤ k := by
  show (toString n).length ≤ k
  show (Nat.repr n).length ≤ k
  exact (Nat.length_repr_le_iff (by omega)).mpr h
theorem plc_ate {r w r2 : L} (h : rdPlc r = some (w, r2)) : r = w ++ r2 ∧ 1 ≤ w.length ∧ ∀ c ∈ w, safe c := by
  unfold rdPlc at h
  split at h
  · cases h
    exact ⟨rfl, by simp, fun c m => .inr (.inl (by simpa using m))⟩
  · cases h
    exact ⟨rfl, by simp, fun c m => .inr (.inr (by simpa using m))⟩
  · obtain ⟨a, b, c⟩ := dig_ate (k := 0) h
    exact ⟨a, b, fun x m => .inl ((by decide +kernel : ∀ c ∈ digC, c ∈ namC) x (c x m))⟩
theorem plain_ate {k n : Nat} (hk : k ≤ 80) {sum : Rd} (H : ∀ r t r', Rn k r → sum r = some (t, r') → ∃ p, Ate r 1 t p r') {r : L} {t : Sm} {r' : L} (rn : Rn k r) (h : plainF sum r = some (t, r')) : ∃ p, Ate r 9 t p r' := by
  unfold plainF at h
  split at h
  · rename_i r1
    cases e : sum r1 with
    | none => rw [e] at h; cases h
    | some o =>
      obtain ⟨u, r2⟩ := o
      rw [e] at h
      split at h
      · rename_i a b r3 e2
        cases e2
        cases h
        obtain ⟨p, A⟩ := H _ _ _ (rn.tail (p := [40])) e
        refine ⟨40 :: (p ++ [41]), ?_, ?_, A.good, ?_, ?_, ?_⟩
        · rw [A.eq]
          simp
        · have z := A.pc
          have z2 : cnt (40 :: (p ++ [41])) = 1 + cnt p := by
            show cnt ([40] ++ (p ++ [41])) = _
            rw [cnt_app, cnt_app]
            rfl
          rw [z2]
          unfold Sm.pcl at z ⊢
          split <;> omega
        · have z := A.sz
          show _ ≤ w2 ([40] ++ (p ++ [41]))
          rw [w2_app, w2_app]
          omega
        · have z := A.rl
          simp only [List.length_cons, List.length_append]
          omega
        · simp
      · cases h
  · rename_i r1
    cases e : rdPlc r1 with
    | none => rw [e] at h; cases h
    | some o =>
      obtain ⟨w, r2⟩ := o
      rw [e] at h
      cases h
      obtain ⟨a, b, c⟩ := plc_ate e
      refine ⟨36 :: w, by rw [a]; rfl, ?_, fun x m => c x (by rw [cs_st] at m; exact m), by simp [Sm.isz], ?_, by simp⟩
      · rw [pcl_eq (show 9 ≤ (Sm.of _).rank from Nat.le_refl _)]
        exact Nat.zero_le _
      · show 10 + (st w).length ≤ _
        rw [len_cs, cs_st, List.length_cons]
        omega
  · rename_i c r1 h1 h2
    split at h
    · rename_i hc
      cases h
      have hc' : c ∈ namC := (by decide +kernel : ∀ c ∈ staC, c ∈ namC) c hc
      refine ⟨_, (List.takeWhile_append_dropWhile ..).symm, ?_, fun x m => .inl ?_, by simp [Sm.isz], ?_, ?_⟩
      · rw [pcl_eq (show 9 ≤ (Sm.of _).rank from Nat.le_refl _)]
        exact Nat.zero_le _
      · rw [cs_st] at m
        simpa using tw_mem m
      · show 10 + (st _).length ≤ _
        rw [len_cs, cs_st, List.takeWhile_cons_of_pos (by simpa using hc'), List.length_cons]
        omega
      · rw [List.takeWhile_cons_of_pos (by simpa using hc'), List.length_cons]
        omega
    · cases e : rdDig (c :: r1) with
      | none => rw [e] at h; cases h
      | some o =>
        obtain ⟨d, r2⟩ := o
        rw [e] at h
        cases h
        obtain ⟨a, b, dd⟩ := dig_ate (k := 0) e
        have lt := digVal_lt d dd
        have ld : d.length ≤ k := rn [] d _ a dd
        refine ⟨d, a, ?_, ⟨by omega, ?_⟩, by simp [Sm.isz], ?_, b⟩
        · rw [pcl_eq (show 9 ≤ (Sm.num _).rank from Nat.le_refl _)]
          exact Nat.zero_le _
        · have z : (10 : Nat) ^ d.length ≤ 10 ^ 80 := Nat.pow_le_pow_right (by decide) (by omega)
          have y := Nat.lt_of_lt_of_le lt z
          exact_mod_cast y
        · show 12 + (toString ((digVal d : Nat) : Int)).length ≤ _
          have := len_str_int lt b
          omega
  · cases h
theorem ahead_ate {k n : Nat} {ahead plain : Rd} (HA : ∀ r t r', Rn k r → ahead r = some (t, r') → ∃ p, Ate r 8 t p r') (HP : ∀ r t r', Rn k r → plain r = some (t, r') → ∃ p, Ate r 9 t p r') {r : L} {t : Sm} {r' : L} (rn : Rn k r) (h : aheadF ahead plain r = some (t, r')) :
    ∃ p, Ate r 8 t p r' := by
  obtain ⟨q, eq⟩ := spc_pre r
  have rq : Rn k (spc r) := by rw [eq] at rn; exact rn.tail
  have sg : ∀ (c : Nat) (s : Str) (r1 : L), 2 ≤ w2 [c] → (s = "minus" ∨ s = "no") → spc r = c :: r1 → (match ahead r1 with | none => none | some (t, r2) => some (Sm.one s t, r2)) = some (t, r') → ∃ p, Ate r 8 t p r' := by
    intro c s r1 hw hs e1 h
    cases e : ahead r1 with
    | none => rw [e] at h; cases h
    | some o =>
      obtain ⟨u, r2⟩ := o
      rw [e] at h
      cases h
      obtain ⟨p, A⟩ := HA _ _ _ (by rw [e1] at rq; exact rq.tail (p := [c])) e
      have z : Ate (spc r) 8 (.one s u) ([c] ++ p) r' := by
        refine ⟨by rw [e1, A.eq]; rfl, ?_, ⟨hs, A.good⟩, ?_, ?_, by simp⟩
        · rw [pcl_eq (show 8 ≤ (Sm.one _ _).rank from Nat.le_refl _), cnt_app]
          have := A.pc
          show u.pcl 8 ≤ _
          omega
        · rw [w2_app]
          have := A.sz
          show 2 * (1 + u.isz) ≤ _
          omega
        · have := A.rl
          show 11 + u.rl ≤ _
          simp only [List.length_append, List.length_cons, List.length_nil]
          omega
      exact ⟨_, z.pre eq⟩
  unfold aheadF at h
  split at h
  · rename_i r1 e1
    exact sg 45 "minus" r1 (by decide +kernel) (.inl rfl) e1 h
  · rename_i r1 e1
    exact sg 33 "no" r1 (by decide +kernel) (.inr rfl) e1 h
  · cases e : plain (spc r) with
    | none => rw [e] at h; cases h
    | some o =>
      obtain ⟨u, r2⟩ := o
      rw [e] at h
      cases h
      obtain ⟨p, A⟩ := HP _ _ _ rq e
      obtain ⟨q2, e2⟩ := spc_pre r2
      exact ⟨_, ((A.le (by decide)).app _ e2).pre eq⟩
theorem sum_ate {k n : Nat} {sum : Rd} {two : Nat → Rd} (H : ∀ r t r', Rn k r → sum r = some (t, r') → ∃ p, Ate r 1 t p r') (H2 : ∀ l r t r', l ≤ 8 → Rn k r → two l r = some (t, r') → (∃ p, Ate r l t p r') ∧ NoNext l r') {r : L} {t : Sm} {r' : L} (rn : Rn k r) (h : sumF sum two r = some (t, r')) :
    ∃ p, Ate r 1 t p r' := by
  unfold sumF at h
  split at h
  · cases h
  · skip
    rename_i t1 r2 e
    obtain ⟨⟨p, A⟩, _⟩ := H2 _ _ _ _ (by decide) rn e
    have rn2 : Rn k r2 := by rw [A.eq] at rn; exact (rn.tail).tail (p := [63])
    split at h
    · rename_i a r3 e3
      obtain ⟨p2, A2⟩ := H _ _ _ rn2 e3
      have rn3 : Rn k r3 := by rw [A2.eq] at rn2; exact (rn2.tail).tail (p := [58])
      cases e4 : sum r3 with
      | none => rw [e4] at h; cases h
      | some o =>
        obtain ⟨b, r4⟩ := o
        rw [e4] at h
        cases h
        obtain ⟨p3, A3⟩ := H _ _ _ rn3 e4
        refine ⟨p ++ ([63] ++ (p2 ++ ([58] ++ p3))), ?_, ?_, ⟨rfl, A.good, A2.good, A3.good⟩, ?_, ?_, ?_⟩
        · rw [A.eq, A2.eq, A3.eq]
          simp
        · rw [pcl_eq (show 1 ≤ (Sm.three _ _ _ _).rank from Nat.le_refl _)]
          simp only [cnt_app]
          have z1 := A.pc
          have z2 := A2.pc
          have z3 := A3.pc
          show t1.pcl 2 + a.pcs + b.pcl 1 ≤ _
          have : a.pcs ≤ a.pcl 1 := Nat.le_add_right _ _
          omega
        · simp only [w2_app]
          have := A.sz
          have := A2.sz
          have := A3.sz
          have : w2 [58] = 2 := by decide +kernel
          show 2 * (1 + t1.isz + a.isz + b.isz) ≤ _
          omega
        · have := A.rl
          have := A2.rl
          have := A3.rl
          show 16 + t1.rl + a.rl + b.rl ≤ _
          simp only [List.length_append, List.length_cons, List.length_nil]
          omega
        · have := A.ne
          simp only [List.length_append]
          omega
    · cases h
  · rename_i t1 r1 e1 e
    cases h
    obtain ⟨⟨p, A⟩, _⟩ := H2 _ _ _ _ (by decide) rn e
    exact ⟨p, A.le (by decide)⟩
theorem rds_ate {k : Nat} (hk : k ≤ 80) : ∀ n, (∀ r t r', Rn k r → (rds n).sum r = some (t, r') → ∃ p, Ate r 1 t p r') ∧ (∀ l r t r', l ≤ 8 → Rn k r → (rds n).two l r = some (t, r') → (∃ p, Ate r l t p r') ∧ NoNext l r') ∧
    (∀ r t r', Rn k r → (rds n).ahead r = some (t, r') → ∃ p, Ate r 8 t p r') ∧ (∀ r t r', Rn k r → (rds n).plain r = some (t, r') → ∃ p, Ate r 9 t p r')
  | 0 => ⟨(fun _ _ _ _ e => by cases e), (fun _ _ _ _ _ _ e => by cases e), (fun _ _ _ _ e => by cases e), (fun _ _ _ _ e => by cases e)⟩
  | n + 1 => by
    obtain ⟨i1, i2, i3, i4⟩ := rds_ate hk n
    refine ⟨fun r t r' rn e => sum_ate (n := 0) i1 i2 rn e, fun l r t r' hl rn e => ?_, fun r t r' rn e => ahead_ate (n := 0) i3 i4 rn e, fun r t r' rn e => plain_ate (n := 0) hk i1 rn e⟩
    have e' : twoF (rds n).two (rds n).ahead l r = some (t, r') := e
    unfold twoF at e'
    cases h : (rds n).ahead r with
    | none => rw [h] at e'; cases e'
    | some o =>
      obtain ⟨u, r1⟩ := o
      rw [h] at e'
      dsimp only at e'
      obtain ⟨p, A⟩ := i3 _ _ _ rn h
      refine loop_ate k (fun l' r t r' a b c => i2 l' r t r' a b c) hl _ _ _ _ _ _ _ rn (A.le hl) (fun q z => ?_) e'
      have hq := tpk_op q (tpSign_mem z).1
      exact Nat.le_trans (pcl_mono (by omega)) A.pc
end Qb
end PySem
namespace PySem
namespace Qb
open PySem.W PySem.Calls PyProof.Rows L2
/-! # what is shown is read again -/
abbrev nmC (n : Nat) : L := cs (Str.ofString (toString n))
theorem nmC_eq (n : Nat) : nmC n = (Nat.toDigits 10 n).map Char.toNat := by
  show (Str.ofString (Nat.repr n)).cps.toList = _
  rw [PyProof.Rows.signs_ofString, Nat.repr_eq_ofList_toDigits, String.toList_ofList]
theorem nmC_lt {n : Nat} (h : n < 10) : nmC n = [48 + n] := by
  rw [nmC_eq, Nat.toDigits_of_lt_base h]
  exact congrArg (fun x => [x]) ((by decide : ∀ n < 10, (Nat.digitChar n).toNat = 48 + n) n h)
theorem nmC_ge {n : Nat} (h : 10 ≤ n) : nmC n = nmC (n / 10) ++ [48 + n % 10] := by
  rw [nmC_eq, nmC_eq, Nat.toDigits_eq_if (by decide), if_neg (by omega), List.map_append]
  exact congrArg (fun x => _ ++ [x]) ((by decide : ∀ n < 10, (Nat.digitChar n).toNat = 48 + n) (n % 10) (Nat.mod_lt _ (by decide)))
theorem dig_in {n : Nat} (h : n < 10) : 48 + n ∈ digC := (by decide : ∀ n < 10, 48 + n ∈ digC) n h
theorem digVal_snoc (l : L) (c : Nat) : digVal (l ++ [c]) = 10 * digVal l + (c - 48) := by
  unfold digVal
  rw [List.foldl_append]
  rfl
theorem nmC_ok (n : Nat) : nmC n ≠ [] ∧ (∀ c ∈ nmC n, c ∈ digC) ∧ (n ≠ 0 → (nmC n).head? ≠ some 48) ∧ digVal (nmC n) = n := by
  induction n using Nat.strongRecOn with
  | _ n ih =>
    by_cases h : n < 10
    · rw [nmC_lt h]
      refine ⟨by simp, fun c m => ?_, fun z e => ?_, ?_⟩
      · rw [List.mem_singleton.mp m]
        exact dig_in h
      · have : 48 + n = 48 := Option.some.inj e
        omega
      · show 10 * 0 + (48 + n - 48) = n
        omega
    · obtain ⟨a, b, c, d⟩ := ih (n / 10) (by omega)
      rw [nmC_ge (by omega)]
      refine ⟨by simp, fun x m => ?_, fun _ e => ?_, ?_⟩
      · rcases List.mem_append.mp m with m | m
        · exact b x m
        · rw [List.mem_singleton.mp m]
          exact dig_in (Nat.mod_lt _ (by decide))
      · refine c (by omega) ?_
        cases q : nmC (n / 10) with
        | nil => exact (a q).elim
        | cons x y => rw [q] at e; exact e
      · rw [digVal_snoc, d]
        omega
/-- what can't go on with a name or a number -/
def Tidy (r : L) : Prop := ∀ c l, r = c :: l → c ∉ namC
theorem tidy_no {r : L} (h : Tidy r) {S : L} (hs : ∀ c ∈ S, c ∈ namC) {l : L} (hl : ∀ c ∈ l, c ∈ S) : (l ++ r).takeWhile (fun c => decide (c ∈ S)) = l ∧ (l ++ r).dropWhile (fun c => decide (c ∈ S)) = r := by
  induction l with
  | nil =>
    cases r with
    | nil => exact ⟨rfl, rfl⟩
    | cons c r =>
      have n : ¬ decide (c ∈ S) = true := fun z => h c r rfl (hs c (of_decide_eq_true z))
      exact ⟨List.takeWhile_cons_of_neg n, List.dropWhile_cons_of_neg n⟩
  | cons c l ih =>
    have z := ih fun d m => hl d (.tail _ m)
    have p : decide (c ∈ S) = true := decide_eq_true (hl c (.head _))
    exact ⟨by rw [List.cons_append, List.takeWhile_cons_of_pos (p := fun c => decide (c ∈ S)) p, z.1], by rw [List.cons_append, List.dropWhile_cons_of_pos (p := fun c => decide (c ∈ S)) p, z.2]⟩
theorem rdDig_of {d r : L} (h : Tidy r) (hn : d ≠ []) (ha : ∀ c ∈ d, c ∈ digC) (h0 : d.head? = some 48 → d.length = 1) : rdDig (d ++ r) = some (d, r) := by
  have z := tidy_no h (S := digC) (by decide +kernel) ha
  unfold rdDig
  dsimp only
  rw [z.1, z.2, if_neg]
  rintro (e | ⟨e, f⟩)
  · exact hn e
  · have := h0 e
    omega
def okPl (w : L) : Prop := w = [35] ∨ w = [63] ∨ (w ≠ [] ∧ (∀ c ∈ w, c ∈ digC) ∧ (w.head? = some 48 → w.length = 1))
theorem rdPlc_of {w r : L} (h : Tidy r) (ho : okPl w) : rdPlc (w ++ r) = some (w, r) := by
  rcases ho with rfl | rfl | ⟨a, b, c⟩
  · rfl
  · rfl
  · have z := rdDig_of h a b c
    cases w with
    | nil => exact (a rfl).elim
    | cons x w =>
      have hx := b x (.head _)
      have n1 : x ≠ 35 := fun e => by rw [e] at hx; revert hx; decide
      have n2 : x ≠ 63 := fun e => by rw [e] at hx; revert hx; decide
      unfold rdPlc
      split
      · rename_i e; exact (n1 (List.cons.inj e).1).elim
      · rename_i e; exact (n2 (List.cons.inj e).1).elim
      · exact z
def Sm.nice : Sm → Prop
  | .num n => 0 ≤ n
  | .of w => isNm (cs w) = true ∨ (isNm (cs w) = false ∧ okPl (cs w))
  | .one s a => (s = "minus" ∨ s = "no") ∧ a.nice
  | .two s a b => isOp s = true ∧ a.nice ∧ b.nice
  | .three s a b c => s = "choose" ∧ a.nice ∧ b.nice ∧ c.nice
def Sm.ht : Sm → Nat
  | .num _ => 0
  | .of _ => 0
  | .one _ a => 1 + a.ht
  | .two _ a b => 1 + max a.ht b.ht
  | .three _ a b c => 1 + max a.ht (max b.ht c.ht)
theorem rank_ge {t : Sm} (h : t.nice) : 1 ≤ t.rank := by
  cases t with
  | num n => show 1 ≤ 9; decide
  | of w => show 1 ≤ 9; decide
  | one s a => show 1 ≤ 8; decide
  | two s a b =>
    obtain ⟨c, m⟩ := op_tpk h.1
    have := (tpk_op _ m).2.1
    show 1 ≤ rk s
    have : 2 ≤ rk s := this
    omega
  | three s a b c => exact Nat.le_refl _
/-- a sum's first sign is no blank -/
theorem nm_cons {l : L} (h : isNm l = true) : ∃ c r, l = c :: r ∧ c ∈ staC ∧ ∀ d ∈ r, d ∈ namC := by
  unfold isNm at h
  cases l with
  | nil => cases h
  | cons c r =>
    have h' : (decide (c ∈ staC) && r.all fun d => decide (d ∈ namC)) = true := h
    rw [Bool.and_eq_true, List.all_eq_true] at h'
    exact ⟨c, r, rfl, of_decide_eq_true h'.1, fun d m => of_decide_eq_true (h'.2 d m)⟩
def First (l : L) : Prop := ∃ c r, l = c :: r ∧ c ∉ wsC
theorem first_app {l r : L} (h : First l) : First (l ++ r) := by
  obtain ⟨c, q, rfl, n⟩ := h
  exact ⟨c, q ++ r, rfl, n⟩
theorem first_par {b : Bool} {l : L} (h : First l) : First (par b l) := by
  cases b
  · exact h
  · exact ⟨40, l ++ [41], rfl, by decide⟩
theorem first_shw : ∀ {t : Sm}, t.nice → First t.shw
  | .num n, h => by
    obtain ⟨m, rfl⟩ : ∃ m : Nat, n = m := ⟨n.toNat, (Int.toNat_of_nonneg h).symm⟩
    obtain ⟨a, b, _⟩ := nmC_ok m
    have e : (Sm.num (m : Int)).shw = nmC m := rfl
    rw [e]
    cases q : nmC m with
    | nil => exact (a q).elim
    | cons c r => exact ⟨c, r, rfl, (by decide : ∀ c ∈ digC, c ∉ wsC) c (b c (by rw [q]; exact .head _))⟩
  | .of w, h => by
    show First (if isNm (cs w) then cs w else 36 :: cs w)
    cases e : isNm (cs w) with
    | true =>
      obtain ⟨c, r, q, m, _⟩ := nm_cons e
      rw [if_pos rfl, q]
      exact ⟨c, r, rfl, (by decide +kernel : ∀ c ∈ staC, c ∉ wsC) c m⟩
    | false =>
      rw [if_neg (by decide)]
      exact ⟨36, cs w, rfl, by decide⟩
  | .one s a, h => by
    show First (aheadC s ++ _)
    unfold aheadC
    split
    · exact ⟨33, _, rfl, by decide⟩
    · exact ⟨45, _, rfl, by decide⟩
  | .two s a b, h => first_app (first_par (first_shw h.2.1))
  | .three s a b c, h => first_app (first_par (first_shw h.2.1))
theorem spc_first {l : L} (h : First l) : spc l = l := by
  obtain ⟨c, r, rfl, n⟩ := h
  unfold spc
  rw [List.dropWhile_cons_of_neg (by simpa using n)]
theorem spc_sp (l : L) : spc (32 :: l) = spc l := by
  unfold spc
  rw [List.dropWhile_cons_of_pos (by decide)]
def LoopTo (n l : Nat) (t : Sm) (r : L) (o : Sm × L) : Prop := ∃ m, m ≤ r.length + 1 ∧ loopW (rds n).two m l t r = some o
theorem loop_more {two : Nat → Rd} : ∀ {m l t r o}, loopW two m l t r = some o → loopW two (m + 1) l t r = some o
  | 0, l, t, r, o, h => by cases h
  | m + 1, l, t, r, o, h => by
    unfold loopW at h ⊢
    cases e : tpSign r with
    | none => rw [e] at h; exact h
    | some p =>
      rw [e] at h
      dsimp only at h ⊢
      by_cases c : l ≤ rk p.1
      · rw [if_pos c] at h ⊢
        cases q : two (rk p.1 + 1) (r.drop p.2.length) with
        | none => rw [q] at h; cases h
        | some x =>
          obtain ⟨u, r2⟩ := x
          rw [q] at h
          dsimp only at h ⊢
          exact loop_more h
      · rw [if_neg c] at h ⊢
        exact h
theorem loop_most {two : Nat → Rd} {m l : Nat} {t : Sm} {r : L} {o : Sm × L} (h : loopW two m l t r = some o) : ∀ {k}, m ≤ k → loopW two k l t r = some o := by
  intro k hk
  induction k with
  | zero =>
    obtain rfl : m = 0 := by omega
    exact h
  | succ k ih =>
    by_cases c : m = k + 1
    · rw [← c]; exact h
    · exact loop_more (ih (by omega))
theorem loop_stop {n l : Nat} {t : Sm} {r : L} (h : NoNext l r) : LoopTo n l t r (t, r) := by
  refine ⟨1, by omega, ?_⟩
  unfold loopW
  cases e : tpSign r with
  | none => rfl
  | some p =>
    dsimp only
    rw [if_neg (by have := h p e; omega)]
theorem two_of {n l : Nat} {t : Sm} {r r1 : L} {o : Sm × L} (h : (rds n).ahead r = some (t, r1)) (k : LoopTo n l t r1 o) : (rds (n + 1)).two l r = some o := by
  obtain ⟨m, hm, e⟩ := k
  show twoF (rds n).two (rds n).ahead l r = some o
  unfold twoF
  rw [h]
  exact loop_most e hm
theorem ahead_sp {n : Nat} (r : L) : (rds (n + 1)).ahead (32 :: r) = (rds (n + 1)).ahead r := by
  show aheadF _ _ (32 :: r) = aheadF _ _ r
  unfold aheadF
  rw [spc_sp]
theorem two_sp {n l : Nat} (r : L) : (rds (n + 2)).two l (32 :: r) = (rds (n + 2)).two l r := by
  show twoF _ _ l (32 :: r) = twoF _ _ l r
  unfold twoF
  rw [ahead_sp]
theorem sum_sp {n : Nat} (r : L) : (rds (n + 3)).sum (32 :: r) = (rds (n + 3)).sum r := by
  show sumF _ _ (32 :: r) = sumF _ _ r
  unfold sumF
  rw [two_sp]
theorem ahead_plain {n : Nat} {r r2 : L} {t : Sm} (hf : First r) (h1 : r.head? ≠ some 45) (h2 : r.head? ≠ some 33) (h : (rds n).plain r = some (t, r2)) : (rds (n + 1)).ahead r = some (t, spc r2) := by
  show aheadF (rds n).ahead (rds n).plain r = _
  unfold aheadF
  rw [spc_first hf]
  obtain ⟨c, q, rfl, _⟩ := hf
  split
  · rename_i e
    cases e
    exact (h1 rfl).elim
  · rename_i e
    cases e
    exact (h2 rfl).elim
  · rw [h]
theorem tp_no {r : L} (h : ∀ c l, r = c :: l → c ∉ [38, 124, 60, 62, 61, 33, 42, 47, 94, 43, 45]) : tpSign r = none := by
  unfold tpSign
  rw [List.find?_eq_none]
  intro p hp z
  obtain ⟨r', e⟩ := List.isPrefixOf_iff_prefix.mp z
  have key : ∀ p ∈ tpk, ∃ c ∈ [38, 124, 60, 62, 61, 33, 42, 47, 94, 43, 45], p.2.head? = some c := by decide +kernel
  obtain ⟨c, hc, e2⟩ := key p hp
  cases q : p.2 with
  | nil => rw [q] at e2; cases e2
  | cons d l =>
    rw [q] at e2 e
    obtain rfl := Option.some.inj e2
    exact h d (l ++ r') e.symm hc
theorem tp_op {s : Str} {c : L} (h : (s, c) ∈ tpk) (r : L) : tpSign (c ++ 32 :: r) = some (s, c) := by
  unfold tpk at h
  simp only [List.mem_cons, List.not_mem_nil, or_false, Prod.mk.injEq] at h
  rcases h with ⟨rfl, rfl⟩ | ⟨rfl, rfl⟩ | ⟨rfl, rfl⟩ | ⟨rfl, rfl⟩ | ⟨rfl, rfl⟩ | ⟨rfl, rfl⟩ | ⟨rfl, rfl⟩ | ⟨rfl, rfl⟩ | ⟨rfl, rfl⟩ | ⟨rfl, rfl⟩ | ⟨rfl, rfl⟩ | ⟨rfl, rfl⟩ | ⟨rfl, rfl⟩ <;> rfl
theorem plainF_40 {sum : Rd} {r1 r2 : L} {t : Sm} (h : sum r1 = some (t, 41 :: r2)) : plainF sum (40 :: r1) = some (t, r2) := by
  show (match sum r1 with
    | some (t, 41 :: r2) => some (t, r2)
    | _ => none) = _
  rw [h]
  rfl
theorem plainF_36 {sum : Rd} {r1 r2 w : L} (h : rdPlc r1 = some (w, r2)) : plainF sum (36 :: r1) = some (.of (st w), r2) := by
  show (match rdPlc r1 with
    | none => none
    | some (w, r2) => some (Sm.of (st w), r2)) = _
  rw [h]
theorem aheadF_45 {ahead plain : Rd} {r r1 r2 : L} {t : Sm} (hs : spc r = 45 :: r1) (h : ahead r1 = some (t, r2)) : aheadF ahead plain r = some (.one "minus" t, r2) := by
  unfold aheadF
  rw [hs]
  show (match ahead r1 with
    | none => none
    | some (t, r2) => some (Sm.one "minus" t, r2)) = _
  rw [h]
theorem aheadF_33 {ahead plain : Rd} {r r1 r2 : L} {t : Sm} (hs : spc r = 33 :: r1) (h : ahead r1 = some (t, r2)) : aheadF ahead plain r = some (.one "no" t, r2) := by
  unfold aheadF
  rw [hs]
  show (match ahead r1 with
    | none => none
    | some (t, r2) => some (Sm.one "no" t, r2)) = _
  rw [h]
theorem sumF_63 {sum : Rd} {two : Nat → Rd} {r r2 r3 r4 : L} {t a b : Sm} (h1 : two 2 r = some (t, 63 :: r2)) (h2 : sum r2 = some (a, 58 :: r3)) (h3 : sum r3 = some (b, r4)) : sumF sum two r = some (.three "choose" t a b, r4) := by
  unfold sumF
  rw [h1]
  show (match sum r2 with
    | some (a, 58 :: r3) => (match sum r3 with
      | none => none
      | some (b, r4) => some (Sm.three "choose" t a b, r4))
    | _ => none) = _
  rw [h2]
  show (match sum r3 with
      | none => none
      | some (b, r4) => some (Sm.three "choose" t a b, r4)) = _
  rw [h3]
structure Back (t : Sm) : Prop where
  A : ∀ n l rest o, 6 * t.ht + 6 ≤ n → l ≤ t.rank → 2 ≤ t.rank → Tidy rest → (∀ p, tpSign (spc rest) = some p → rk p.1 ≤ t.rank) → LoopTo n l t (spc rest) o → (rds (n + 1)).two l (t.shw ++ rest) = some o
  B : ∀ n rest, 6 * t.ht + 6 ≤ n → Tidy rest → tpSign (spc rest) = none → (spc rest).head? ≠ some 63 → (rds (n + 2)).sum (t.shw ++ rest) = some (t, spc rest)
  C : ∀ n rest, 6 * t.ht + 6 ≤ n → 8 ≤ t.rank → Tidy rest → (rds n).ahead (t.shw ++ rest) = some (t, spc rest)
theorem sum_two {n : Nat} {t : Sm} {r r1 : L} (h : (rds n).two 2 r = some (t, r1)) (h1 : r1.head? ≠ some 63) : (rds (n + 1)).sum r = some (t, r1) := by
  show sumF _ _ r = _
  unfold sumF
  split
  · rename_i e
    rw [h] at e
    cases e
  · rename_i e
    rw [h] at e
    cases e
    exact (h1 rfl).elim
  · rename_i e
    rw [h] at e
    cases e
    rfl
theorem back_BA {t : Sm} (h2 : 2 ≤ t.rank) (hA : ∀ n l rest o, 6 * t.ht + 6 ≤ n → l ≤ t.rank → 2 ≤ t.rank → Tidy rest → (∀ p, tpSign (spc rest) = some p → rk p.1 ≤ t.rank) → LoopTo n l t (spc rest) o → (rds (n + 1)).two l (t.shw ++ rest) = some o) :
    ∀ n rest, 6 * t.ht + 6 ≤ n → Tidy rest → tpSign (spc rest) = none → (spc rest).head? ≠ some 63 → (rds (n + 2)).sum (t.shw ++ rest) = some (t, spc rest) := fun n rest hn ti h h63 =>
  sum_two (hA n 2 rest _ hn h2 h2 ti (fun p e => by rw [h] at e; cases e) (loop_stop fun p e => by rw [h] at e; cases e)) h63
theorem tidy_41 {r : L} : Tidy (41 :: r) := fun c l e => by
  cases e
  decide +kernel
theorem tidy_32 {r : L} : Tidy (32 :: r) := fun c l e => by
  cases e
  decide +kernel
theorem tidy_nil : Tidy [] := fun c l e => by cases e
theorem spc_41 {r : L} : spc (41 :: r) = 41 :: r := spc_first ⟨41, r, rfl, by decide⟩
theorem paren_plain {a : Sm} (b : Back a) {n : Nat} (hn : 6 * a.ht + 6 ≤ n) (rest : L) : (rds (n + 3)).plain (40 :: (a.shw ++ 41 :: rest)) = some (a, rest) := by
  refine plainF_40 ?_
  rw [b.B n (41 :: rest) hn tidy_41 (by rw [spc_41]; exact tp_no fun c l e => by cases e; decide) (by rw [spc_41]; simp), spc_41]
theorem paren_ahead {a : Sm} (b : Back a) {n : Nat} (hn : 6 * a.ht + 6 ≤ n) (rest : L) : (rds (n + 4)).ahead (40 :: (a.shw ++ 41 :: rest)) = some (a, spc rest) :=
  ahead_plain ⟨40, _, rfl, by decide⟩ (by simp) (by simp) (paren_plain b hn rest)
theorem par_app (c : Bool) (l r : L) : par c l ++ r = if c = true then 40 :: (l ++ 41 :: r) else l ++ r := by
  cases c
  · rfl
  · show (40 :: (l ++ [41])) ++ r = _
    simp
theorem part_two {a : Sm} (b : Back a) {n l l0 : Nat} {rest : L} {o : Sm × L} (hn : 6 * a.ht + 10 ≤ n) (hl : l ≤ l0) (h2 : 2 ≤ l0) (ti : Tidy rest) (nx : ∀ p, tpSign (spc rest) = some p → rk p.1 ≤ l0) (k : LoopTo n l a (spc rest) o) :
    (rds (n + 1)).two l (par (decide (a.rank < l0)) a.shw ++ rest) = some o := by
  rw [par_app]
  by_cases c : a.rank < l0
  · rw [if_pos (decide_eq_true c)]
    obtain ⟨m, rfl⟩ : ∃ m, n = m + 4 := ⟨n - 4, by omega⟩
    exact two_of (paren_ahead b (by omega) rest) k
  · rw [if_neg (by simpa using c)]
    exact b.A n l rest o (by omega) (by omega) (by omega) ti (fun p e => Nat.le_trans (nx p e) (by omega)) k
theorem part_ahead {a : Sm} (b : Back a) {n : Nat} {rest : L} (hn : 6 * a.ht + 10 ≤ n) (ti : Tidy rest) : (rds n).ahead (par (decide (a.rank < 8)) a.shw ++ rest) = some (a, spc rest) := by
  rw [par_app]
  by_cases c : a.rank < 8
  · rw [if_pos (decide_eq_true c)]
    obtain ⟨m, rfl⟩ : ∃ m, n = m + 4 := ⟨n - 4, by omega⟩
    exact paren_ahead b (by omega) rest
  · rw [if_neg (by simpa using c)]
    exact b.C n rest (by omega) (by omega) ti
theorem back_C {t : Sm} (h : 8 ≤ t.rank) (hC : ∀ n rest, 6 * t.ht + 6 ≤ n → 8 ≤ t.rank → Tidy rest → (rds n).ahead (t.shw ++ rest) = some (t, spc rest)) : Back t := by
  have hA : ∀ n l rest o, 6 * t.ht + 6 ≤ n → l ≤ t.rank → 2 ≤ t.rank → Tidy rest → (∀ p, tpSign (spc rest) = some p → rk p.1 ≤ t.rank) → LoopTo n l t (spc rest) o → (rds (n + 1)).two l (t.shw ++ rest) = some o :=
    fun n l rest o hn _ _ ti _ k => two_of (hC n rest hn h ti) k
  exact ⟨hA, back_BA (by omega) hA, hC⟩
theorem leaf_back {t : Sm} (hr : t.rank = 9) (hf : First t.shw) (h1 : t.shw.head? ≠ some 45) (h2 : t.shw.head? ≠ some 33) (hp : ∀ n rest, Tidy rest → (rds (n + 1)).plain (t.shw ++ rest) = some (t, rest)) : Back t := by
  refine back_C (by omega) fun n rest hn _ ti => ?_
  obtain ⟨m, rfl⟩ : ∃ m, n = m + 2 := ⟨n - 2, by omega⟩
  have hd : ∀ x, t.shw.head? ≠ some x → (t.shw ++ rest).head? ≠ some x := fun x z => by
    obtain ⟨c, q, e, _⟩ := hf
    rw [e] at z ⊢
    exact z
  exact ahead_plain (first_app hf) (hd 45 h1) (hd 33 h2) (hp m rest ti)
theorem sta_nam : ∀ c ∈ staC, c ∈ namC := by decide +kernel
theorem plain_dig {n : Nat} {d rest : L} (ti : Tidy rest) (hn : d ≠ []) (ha : ∀ c ∈ d, c ∈ digC) (h0 : d.head? = some 48 → d.length = 1) : (rds (n + 1)).plain (d ++ rest) = some (.num (digVal d), rest) := by
  have z := rdDig_of ti hn ha h0
  cases d with
  | nil => exact (hn rfl).elim
  | cons x d =>
    have hx := ha x (.head _)
    have n1 : x ≠ 40 := fun e => by rw [e] at hx; revert hx; decide
    have n2 : x ≠ 36 := fun e => by rw [e] at hx; revert hx; decide
    have n3 : x ∉ staC := (by decide +kernel : ∀ c ∈ digC, c ∉ staC) x hx
    show plainF _ (x :: (d ++ rest)) = _
    unfold plainF
    split
    · rename_i e; exact (n1 (List.cons.inj e).1).elim
    · rename_i e; exact (n2 (List.cons.inj e).1).elim
    · rename_i e
      cases e
      rw [if_neg n3]
      have z' : rdDig (x :: (d ++ rest)) = some (x :: d, rest) := z
      rw [z']
    · rename_i e; cases e
theorem back : ∀ {t : Sm}, t.nice → Back t
  | .num n, h => by
    obtain ⟨m, rfl⟩ : ∃ m : Nat, n = m := ⟨n.toNat, (Int.toNat_of_nonneg h).symm⟩
    obtain ⟨a, b, c, d⟩ := nmC_ok m
    have e : (Sm.num (m : Int)).shw = nmC m := rfl
    have c' : (nmC m).head? = some 48 → (nmC m).length = 1 := fun z => by
      by_cases z0 : m = 0
      · subst z0
        rw [nmC_lt (by decide)]
        rfl
      · exact (c z0 z).elim
    have hd : ∀ x, x ∉ digC → (Sm.num (m : Int)).shw.head? ≠ some x := fun x hx z => by
      rw [e] at z
      exact hx (b x (List.mem_of_head? z))
    refine leaf_back rfl (first_shw (t := .num m) h) (hd 45 (by decide)) (hd 33 (by decide)) fun n rest ti => ?_
    rw [e, plain_dig ti a b c', d]
  | .of w, h => by
    have es : (Sm.of w).shw = if isNm (cs w) then cs w else 36 :: cs w := rfl
    rcases h with h | ⟨h, hp⟩
    · rw [h, if_pos rfl] at es
      obtain ⟨c, r, q, m, al⟩ := nm_cons h
      have n1 : ∀ x, x ∉ staC → (Sm.of w).shw.head? ≠ some x := fun x hx z => by
        rw [es, q] at z
        exact hx (by rw [← Option.some.inj z]; exact m)
      refine leaf_back rfl (by rw [es, q]; exact ⟨c, r, rfl, (by decide +kernel : ∀ c ∈ staC, c ∉ wsC) c m⟩) (n1 45 (by decide +kernel)) (n1 33 (by decide +kernel)) fun n rest ti => ?_
      rw [es]
      have t2 := tidy_no ti (S := namC) (fun _ z => z) (l := cs w) (by rw [q]; exact fun d md => by rcases List.mem_cons.mp md with rfl | md; exact sta_nam _ m; exact al d md)
      rw [q] at t2
      show plainF _ (cs w ++ rest) = _
      rw [q]
      unfold plainF
      have k1 : c ≠ 40 := fun e => by rw [e] at m; revert m; decide +kernel
      have k2 : c ≠ 36 := fun e => by rw [e] at m; revert m; decide +kernel
      rw [List.cons_append] at t2 ⊢
      split
      · rename_i e; exact (k1 (List.cons.inj e).1).elim
      · rename_i e; exact (k2 (List.cons.inj e).1).elim
      · rename_i e
        cases e
        rw [if_pos m, t2.1, t2.2, ← q, st_cs]
      · rename_i e; cases e
    · rw [h, if_neg (by decide)] at es
      refine leaf_back rfl (by rw [es]; exact ⟨36, _, rfl, by decide⟩) (by rw [es]; simp) (by rw [es]; simp) fun n rest ti => ?_
      rw [es]
      show plainF (rds n).sum (36 :: (cs w ++ rest)) = _
      rw [plainF_36 (rdPlc_of ti hp), st_cs]
  | .one s a, h => by
    have ba := back h.2
    refine back_C (Nat.le_refl _) fun n rest hn _ ti => ?_
    have hh : (Sm.one s a).ht = 1 + a.ht := rfl
    obtain ⟨m, rfl⟩ : ∃ m, n = m + 1 := ⟨n - 1, by omega⟩
    have z := part_ahead ba (n := m) (rest := rest) (by omega) ti
    have es : (Sm.one s a).shw = aheadC s ++ par (decide (a.rank < 8)) a.shw := rfl
    rw [es]
    rcases h.1 with rfl | rfl
    · exact aheadF_45 (plain := (rds m).plain) (spc_first ⟨45, _, rfl, by decide⟩) z
    · exact aheadF_33 (plain := (rds m).plain) (spc_first ⟨33, _, rfl, by decide⟩) z
  | .two s a b, h => by
    have ba := back h.2.1
    have bb := back h.2.2
    obtain ⟨c, mc⟩ := op_tpk h.1
    have hk : 2 ≤ rk s ∧ rk s ≤ 7 := (tpk_op _ mc).2
    have ec : cs s = c := tpk_cs _ mc
    have hh : (Sm.two s a b).ht = 1 + max a.ht b.ht := rfl
    have hA : ∀ n l rest o, 6 * (Sm.two s a b).ht + 6 ≤ n → l ≤ (Sm.two s a b).rank → 2 ≤ (Sm.two s a b).rank → Tidy rest → (∀ p, tpSign (spc rest) = some p → rk p.1 ≤ (Sm.two s a b).rank) → LoopTo n l (.two s a b) (spc rest) o → (rds (n + 1)).two l ((Sm.two s a b).shw ++ rest) = some o := by
      intro n l rest o hn hl h2 ti nx ⟨m, hm, em⟩
      have hl' : l ≤ rk s := hl
      have es : (Sm.two s a b).shw ++ rest = par (decide (a.rank < rk s)) a.shw ++ (32 :: (c ++ 32 :: (par (decide (b.rank < rk s + 1)) b.shw ++ rest))) := by
        show (par (decide (a.rank < rk s)) a.shw ++ 32 :: (cs s ++ 32 :: par (decide (b.rank < rk s + 1)) b.shw)) ++ rest = _
        rw [ec]
        simp
      have fc : First (c ++ 32 :: (par (decide (b.rank < rk s + 1)) b.shw ++ rest)) := first_app ((by
        have key : ∀ p ∈ tpk, ∃ x ∈ [38, 124, 60, 62, 61, 33, 42, 47, 94, 43, 45], p.2.head? = some x := by decide +kernel
        obtain ⟨x, hx, e2⟩ := key _ mc
        have e2 : c.head? = some x := e2
        cases c with
        | nil => cases e2
        | cons d q =>
          obtain rfl := Option.some.inj e2
          exact ⟨d, q, rfl, (by decide : ∀ c ∈ [38, 124, 60, 62, 61, 33, 42, 47, 94, 43, 45], c ∉ wsC) d hx⟩))
      have e1 : spc (32 :: (c ++ 32 :: (par (decide (b.rank < rk s + 1)) b.shw ++ rest))) = c ++ 32 :: (par (decide (b.rank < rk s + 1)) b.shw ++ rest) := by rw [spc_sp, spc_first fc]
      have tp := tp_op mc (par (decide (b.rank < rk s + 1)) b.shw ++ rest)
      rw [es]
      refine part_two ba (by omega) hl' hk.1 tidy_32 (fun p e => by rw [e1, tp] at e; cases e; exact Nat.le_refl _) ?_
      rw [e1]
      obtain ⟨n', rfl⟩ : ∃ n', n = n' + 2 := ⟨n - 2, by omega⟩
      have second : (rds (n' + 2)).two (rk s + 1) (32 :: (par (decide (b.rank < rk s + 1)) b.shw ++ rest)) = some (b, spc rest) := by
        rw [two_sp]
        refine part_two bb (n := n' + 1) (by omega) (Nat.le_refl _) (by omega) ti (fun p e => Nat.le_succ_of_le (nx p e)) (loop_stop fun p e => Nat.lt_succ_of_le (nx p e))
      refine ⟨m + 1, ?_, ?_⟩
      · have : (spc rest).length ≤ rest.length := by
          obtain ⟨p, e⟩ := spc_pre rest
          have z := congrArg List.length e
          rw [List.length_append] at z
          omega
        have : 1 ≤ c.length := (tpk_w2 _ mc).2
        simp only [List.length_append, List.length_cons]
        omega
      · unfold loopW
        rw [tp]
        dsimp only
        rw [if_pos hl', show (c ++ 32 :: (par (decide (b.rank < rk s + 1)) b.shw ++ rest)).drop c.length = 32 :: (par (decide (b.rank < rk s + 1)) b.shw ++ rest) by simp, second]
        exact em
    exact ⟨hA, back_BA hk.1 hA, fun n rest _ h8 _ => by have : 8 ≤ rk s := h8; omega⟩
  | .three s a b c, h => by
    obtain ⟨rfl, ha, hb, hc⟩ := h
    have ba := back ha
    have bb := back hb
    have bc := back hc
    have hh : (Sm.three "choose" a b c).ht = 1 + max a.ht (max b.ht c.ht) := rfl
    refine ⟨fun n l rest o _ _ h2 => by have : 2 ≤ 1 := h2; omega, fun n rest hn ti tn h63 => ?_, fun n rest _ h8 => by have : 8 ≤ 1 := h8; omega⟩
    have rc : decide (c.rank < 1) = false := by
      have := rank_ge hc
      exact decide_eq_false (by omega)
    have es : (Sm.three "choose" a b c).shw ++ rest = par (decide (a.rank < 2)) a.shw ++ (32 :: 63 :: 32 :: (b.shw ++ (32 :: 58 :: 32 :: (c.shw ++ rest)))) := by
      show (par (decide (a.rank < 2)) a.shw ++ 32 :: 63 :: 32 :: (b.shw ++ 32 :: 58 :: 32 :: par (decide (c.rank < 1)) c.shw)) ++ rest = _
      rw [rc]
      simp [par]
    have s63 : ∀ r, spc (32 :: 63 :: r) = 63 :: r := fun r => by rw [spc_sp, spc_first ⟨63, r, rfl, by decide⟩]
    have s58 : ∀ r, spc (32 :: 58 :: r) = 58 :: r := fun r => by rw [spc_sp, spc_first ⟨58, r, rfl, by decide⟩]
    have t63 : ∀ r, tpSign (63 :: r) = none := fun r => tp_no fun c l e => by cases e; decide
    have t58 : ∀ r, tpSign (58 :: r) = none := fun r => tp_no fun c l e => by cases e; decide
    rw [es]
    have h1 := part_two ba (n := n) (l := 2) (l0 := 2) (rest := 32 :: 63 :: 32 :: (b.shw ++ (32 :: 58 :: 32 :: (c.shw ++ rest)))) (by omega) (Nat.le_refl _) (Nat.le_refl _) tidy_32 (fun p e => by rw [s63, t63] at e; cases e) (loop_stop fun p e => by rw [s63, t63] at e; cases e)
    obtain ⟨n', rfl⟩ : ∃ n', n = n' + 2 := ⟨n - 2, by omega⟩
    have h2 : (rds (n' + 3)).sum (32 :: (b.shw ++ (32 :: 58 :: 32 :: (c.shw ++ rest)))) = some (b, 58 :: 32 :: (c.shw ++ rest)) := by
      rw [sum_sp, bb.B (n' + 1) _ (by omega) tidy_32 (by rw [s58, t58]) (by rw [s58]; simp), s58]
    have h3 : (rds (n' + 3)).sum (32 :: (c.shw ++ rest)) = some (c, spc rest) := by
      rw [sum_sp, bc.B (n' + 1) _ (by omega) ti tn h63]
    rw [s63] at h1
    exact sumF_63 h1 h2 h3
end Qb
end PySem
namespace PySem
namespace Qb
open PySem.W PySem.Calls PyProof.Rows L2
def top (i : Nat) : Stmt := PySem.Challenge.pw_quotedback_k01_words.main.body.getD i (.Pass ⟨0, 0, 0, 0⟩)
/-- names of the machine that the text's top leaves as they are -/
structure Blt (mg : Str → Option Value) : Prop where
  abs : mg "abs" = none
  int : mg "int" = none
  len : mg "len" = none
  range : mg "range" = none
  isi : mg "isinstance" = none
  all : mg "all" = none
  str : mg "str" = none
  repr : mg "repr" = none
  dict : mg "dict" = none
  list : mg "list" = none
  tuple : mg "tuple" = none
  bool : mg "bool" = none
  max : mg "max" = none
  min : mg "min" = none
  sum : mg "sum" = none
  reversed : mg "reversed" = none
  ve : mg "ValueError" = none
  any : mg "any" = none
  zip : mg "zip" = none
  enumerate : mg "enumerate" = none
def staS : Str := "abcdefghijklmnopqrstuvwxyzABCDEFGHIJKLMNOPQRSTUVWXYZ_"
def namS : Str := "abcdefghijklmnopqrstuvwxyzABCDEFGHIJKLMNOPQRSTUVWXYZ_0123456789"
def digS : Str := "0123456789"
theorem cs_sta : cs staS = staC := rfl
theorem cs_nam : cs namS = namC := rfl
theorem cs_dig : cs digS = digC := by decide +kernel
def plW : List Str := ["0", "#", "?", "@", "*"]
def alW : List Str := ["@", "*"]
def tpW : List Str := ["&&", "||", "<=", ">=", "==", "!=", "<", ">", "*", "/", "^", "+", "-"]
def bareS : Str := "abcdefghijklmnopqrstuvwxyzABCDEFGHIJKLMNOPQRSTUVWXYZ0123456789./_-,:+@=*?[]!~"
def keyW : List Str := ["if", "then", "elif", "else", "fi", "while", "until", "do", "done", "for", "in", "case", "esac", "{", "}", "!"]
def cutW : List Str := ["#", "##", "^", "^^"]
theorem tpW_eq : tpW = tpk.map (·.1) := by decide +kernel
/-- what the text's top says of its written things -/
structure Wrt (K : Frag) (w : World) (mg : Str → Option Value) : Prop where
  sta : ∃ t, mg "NAME_STARTS" = some (.str staS t)
  nam : ∃ t, mg "NAME_SIGNS" = some (.str namS t)
  dig : ∃ t, mg "DIGITS" = some (.str digS t)
  bare : ∃ t, mg "BARE_SIGNS" = some (.str bareS t)
  pls : ∃ p, mg "PLACE_SIGNS" = some (.ref p) ∧ ∀ H, SqT K H p (plW.map V.str)
  alls : ∃ p, mg "ALL_ARGUMENTS" = some (.ref p) ∧ ∀ H, SqT K H p (alW.map V.str)
  kws : ∃ p, mg "KEY_WORDS" = some (.ref p) ∧ ∀ H, SqT K H p (keyW.map V.str)
  cuts : ∃ p, mg "CUT_MARKS" = some (.ref p) ∧ ∀ H, SqT K H p (cutW.map V.str)
  rks : ∃ (d : Addr) (es : Array DictEntry) (n : Nat), mg "RANKS" = some (.ref d) ∧ KDict K w d es n ∧ ∀ s : Str, (isOp s = false → PySem.W.nsIn K d s = some none) ∧ (isOp s = true → ∃ t, PySem.W.nsIn K d s = some (some (.int (rk s : Nat) t)))
theorem glob_int {X : Cx} {x : Str} {c : Int} {pos : Pos} (hg : Gl X x) (hm : ∃ t, X.mg x = some (.int c t)) (hd : (x == ("__debug__" : Str)) = false := by decide) : PE X (.Name x pos) (tC (.int c)) := by
  obtain ⟨t, e⟩ := hm
  exact pe_glob hg e ⟨t, rfl⟩ hd
theorem small_line {n : Nat} (h : n ≤ 1000000) : n ≤ sizeLine := by
  rw [sizeLine_eq]
  omega
/-- a def that may raise -/
def HasX (P : Program) (w : World) (K : Frag) (mg : Str → Option Value) (base : Heap) (k : Nat) (x : Str) (ps : List Str) (sp : Sp) : Prop :=
  ∃ (f : Addr) (fd : FuncData), mg x = some (.ref f) ∧ PySem.W.keepIn K (.ref f) = true ∧ Binds K fd ps [] ∧ FnOk P w K mg base (L2.CX P w) k f fd ps sp
theorem hasX_of {P : Program} {w : World} {K : Frag} {mg : Str → Option Value} {base : Heap} {k : Nat} {x qual : Str} {st : Stmt} {f : Addr} {fd : FuncData} {ps : List Str} {sp : Sp} (F : Fun K x qual st f fd) (g : mg x = some (.ref f)) (b : Binds K fd ps []) (o : FnOk P w K mg base (L2.CX P w) k f fd ps sp) : HasX P w K mg base k x ps sp := ⟨f, fd, g, F.kp, b, o⟩
def HasM (P : Program) (w : World) (K : Frag) (mg : Str → Option Value) (base : Heap) (C : Addr) (k : Nat) (x : Str) (ps : List Str) (sp : Sp) : Prop :=
  ∃ (f : Addr) (fd : FuncData), Meth K C x f ∧ Binds K fd ps [] ∧ FnOk P w K mg base CX0 k f fd ps sp
def HasMX (P : Program) (w : World) (K : Frag) (mg : Str → Option Value) (base : Heap) (C : Addr) (k : Nat) (x : Str) (ps : List Str) (sp : Sp) : Prop :=
  ∃ (f : Addr) (fd : FuncData), Meth K C x f ∧ Binds K fd ps [] ∧ FnOk P w K mg base (L2.CX P w) k f fd ps sp
theorem pass_of {X : Cx} {E : XK} (tk : Takes X (fun cls d _ H => E cls d H)) : Passes (L2.CX X.prog X.w) X E := fun pins σ H s e s' I h => passAt tk σ pins H s e s' I h
/-! # names and places -/
def startS : Str := staS
def nameS : Str := namS
/-- the longest name at the beginning -/
def nameLen : List Nat → Nat
  | [] => 0
  | c :: r => if c ∈ cs startS then 1 + (r.takeWhile fun d => decide (d ∈ cs nameS)).length else 0
def isNameB (l : List Nat) : Bool := !l.isEmpty && nameLen l == l.length
def big : Nat := 100000
/-- a text in, a value out, nothing made that is kept -/
def spTxt (g : Str → V) : Sp := fun vs H Q _ => ∃ x : Str, vs = [.str x] ∧ x.length ≤ big ∧ ∀ H', Same H H' → Q (g x) H'
def isPlB (l : L) : Bool := inV (.str (st l)) (plW.map V.str) || (!l.isEmpty && l.head? != some 48 && l.all fun d => decide (d ∈ digC))
abbrev spNl : Sp := spTxt fun x => .int (nameLen (cs x))
abbrev spNn : Sp := spTxt fun x => .bl (isNameB (cs x))
abbrev spIp : Sp := spTxt fun x => .bl (isPlB (cs x))
section
variable {P : Program} {w : World} {K : Frag} {mg : Str → Option Value} {base : Heap}
theorem big_line {x : Str} (h : x.length ≤ big) : x.length ≤ sizeLine := by
  rw [sizeLine_eq]
  unfold big at h
  omega
theorem tw_le {p : Nat → Bool} : ∀ (r : List Nat), (r.takeWhile p).length ≤ r.length
  | [] => Nat.le_refl _
  | c :: r => by
    by_cases h : p c = true
    · rw [List.takeWhile_cons_of_pos h, List.length_cons, List.length_cons]
      exact Nat.succ_le_succ (tw_le r)
    · rw [List.takeWhile_cons_of_neg h]
      exact Nat.zero_le _
theorem tw_on {p : Nat → Bool} : ∀ (r : List Nat) (k : Nat) (c : Nat), r[k]? = some c → k ≤ (r.takeWhile p).length → p c = true → k + 1 ≤ (r.takeWhile p).length
  | [], k, c, h, _, _ => by cases h
  | d :: r, 0, c, h, _, hp => by
    have e : d = c := Option.some.inj h
    subst e
    rw [List.takeWhile_cons_of_pos hp, List.length_cons]
    omega
  | d :: r, k + 1, c, h, hk, hp => by
    by_cases hd : p d = true
    · rw [List.takeWhile_cons_of_pos hd, List.length_cons] at hk ⊢
      exact Nat.succ_le_succ (tw_on r k c h (by omega) hp)
    · rw [List.takeWhile_cons_of_neg hd] at hk
      exact absurd hk (by simp)
theorem tw_off {p : Nat → Bool} : ∀ (r : List Nat) (k : Nat), k ≤ (r.takeWhile p).length → (∀ c, r[k]? = some c → p c = false) → k = (r.takeWhile p).length
  | [], k, h, _ => by simpa using h
  | d :: r, 0, _, h => by
    have e := h d rfl
    rw [List.takeWhile_cons_of_neg (by rw [e]; decide)]
    rfl
  | d :: r, k + 1, hk, h => by
    by_cases hd : p d = true
    · rw [List.takeWhile_cons_of_pos hd, List.length_cons] at hk ⊢
      exact congrArg Nat.succ (tw_off r k (by omega) h)
    · rw [List.takeWhile_cons_of_neg hd] at hk
      exact absurd hk (by simp)
theorem cs_nil {x : Str} (h : cs x = []) : x = ("" : Str) := by
  obtain ⟨a⟩ := x
  have e : a = #[] := by
    apply Array.toList_inj.mp
    simpa using h
  subst e
  rfl
abbrev sNl : Stmt := top 10
abbrev nNl : List Str := ["text", "length"]
theorem scNl : FnScope nNl ["text"] (defScope sNl) := ⟨rfl, rfl, rfl, by decide +kernel, rfl, by decide +kernel, by decide +kernel⟩
theorem has_Nl {f : Addr} {fd : FuncData}  (F : Fun K "name_length" "name_length" sNl f fd) (g : mg "name_length" = some (.ref f)) (B : Blt mg) (W : Wrt K w mg)  :
    Has P w K mg base 1 "name_length" ["text"] (spNl) := by
  refine has_of F g (F.binds (ps := ["text"]) fun _ _ _ _ _ _ us hl => match us, hl with | [_], _ => rfl) (F.ok scNl (fun vs H Q E h => ?_) (fun cdv A outer s H vs Q E hr h => ?_))
  · obtain ⟨x, rfl, _⟩ := h
    rfl
  · refine ⟨_, (pss_cons (ps_if (PW.pt (pw_or (pt_cmpR op_eq (pv 0) pe_str (nomark _)) (pw_or1 (pt_cmpR op_notIn_sign (pe_ix ix_str (pv 0) pe_int (fun _ _ => rfl)) (glob_str (by rfl) W.sta) (by rfl))))) (pss_one (ps_ret pe_int)) pss_nil)
        (pss_cons (ps_set (i := 1) scNl.nd rfl (.inl rfl) pe_int)
        (pss_cons (ps_while PassesOwn.never (PW.pt (pw_and (pt_cmpR op_lt (pv 1) (pe_callB call_len (by rfl) B.len PySem.boot_len (pa_cons (pv 0) pa_nil)) (nomark _)) (pw_and1 (pt_cmpR op_in_sign (pe_ix ix_str (pv 0) (pv 1) (fun _ _ => rfl)) (glob_str (by rfl) W.nam) (by rfl))))) (pss_one (ps_aug (i := 1) scNl.nd rfl (.inl rfl) pe_int ip_add)))
        (pss_one (ps_ret (pv 1)))))), ?_⟩
    obtain ⟨x, rfl, hx, k⟩ := h
    have hz := big_line hx
    by_cases h0 : x = ("" : Str)
    · subst h0
      exact ⟨_, rfl, rfl, _, rfl, if_yes (by simp) (k H (Same.refl H))⟩
    · obtain ⟨c, r, hl⟩ : ∃ c r, cs x = c :: r := by
        cases e : cs x with
        | nil => exact absurd (cs_nil e) h0
        | cons c r => exact ⟨c, r, rfl⟩
      have k' : ∀ n, nameLen (c :: r) = n → Q (.int n) H := fun n e => by
        have z : Q (.int (nameLen (cs x))) H := k H (Same.refl H)
        rw [hl, e] at z
        exact z
      have ac : atI (cs x) 0 = some c := atI_nat (j := 0) (by rw [hl]; rfl)
      refine ⟨_, rfl, rfl, _, rfl, if_no (by simpa using h0) ⟨_, rfl, x, 0, c, rfl, rfl, hz, ac, c, startS, rfl, rfl, _, rfl, ?_⟩⟩
      by_cases hc : c ∈ cs startS
      · refine if_no (by simpa using hc) ?_
        have hnl : nameLen (c :: r) = 1 + (r.takeWhile fun d => decide (d ∈ cs nameS)).length := if_pos hc
        have lx : x.length = r.length + 1 := by
          rw [len_cs, hl]
          rfl
        refine while_by (fun σ H' => ∃ j : Nat, σ = [some (.str x), some (.int (1 + (j : Int)))] ∧ H' = H ∧ j ≤ (r.takeWhile fun d => decide (d ∈ cs nameS)).length) (fun σ H' => match σ with
            | [_, some (.int i)] => x.length - i.toNat
            | _ => 0) ⟨0, rfl, rfl, Nat.zero_le _⟩ ?_ ?_
        · rintro σ H' ⟨j, rfl, rfl, hj⟩
          have jl := Nat.le_trans hj (tw_le r)
          refine ⟨_, rfl, _, rfl, .str x, x.length, rfl, ⟨hz, rfl⟩, _, _, rfl, rfl, _, rfl, ?_⟩
          by_cases hlt : j < r.length
          · obtain ⟨d, hd⟩ : ∃ d, r[j]? = some d := ⟨_, List.getElem?_eq_getElem hlt⟩
            have ad : atI (cs x) (1 + (j : Int)) = some d := by
              have z : (cs x)[j + 1]? = some d := by
                rw [hl]
                simpa using hd
              have y := atI_nat z
              rw [show ((j + 1 : Nat) : Int) = 1 + (j : Int) by omega] at y
              exact y
            refine if_yes (by simp; omega) ⟨_, rfl, _, rfl, x, _, d, rfl, rfl, hz, ad, d, nameS, rfl, rfl, _, rfl, ?_⟩
            by_cases hn : d ∈ cs nameS
            · refine if_yes (by simpa using hn) ⟨_, rfl, _, _, rfl, rfl, ⟨j + 1, ?_, rfl, tw_on r j d hd hj (by simpa using hn)⟩, ?_⟩
              · show [some (V.str x), some (V.int (1 + (j : Int) + 1))] = [some (V.str x), some (V.int (1 + ((j + 1 : Nat) : Int)))]
                rw [show (1 + (j : Int) + 1) = 1 + ((j + 1 : Nat) : Int) by omega]
              · show x.length - (1 + (j : Int) + 1).toNat < x.length - (1 + (j : Int)).toNat
                omega
            · refine if_no (by simpa using hn) ⟨_, rfl, ?_⟩
              refine k' _ ?_
              have e := tw_off (p := fun d => decide (d ∈ cs nameS)) r j hj (fun c' hc' => by
                rw [hd] at hc'
                obtain rfl := Option.some.inj hc'
                simpa using hn)
              rw [hnl, ← e] <;> omega
          · refine if_no (by simp; omega) (if_no rfl ⟨_, rfl, ?_⟩)
            refine k' _ ?_
            have e := tw_off (p := fun d => decide (d ∈ cs nameS)) r j hj (fun c' hc' => by
              rw [List.getElem?_eq_none (by omega)] at hc'
              cases hc')
            rw [hnl, ← e] <;> omega
        · intro σ H' Q1 Q2 hq h
          obtain ⟨v, e1, v2, e2, y, n, e3, ln, i, j, e4, e5, b, e6, z⟩ := h
          refine ⟨v, e1, v2, e2, y, n, e3, ln, i, j, e4, e5, b, e6, ?_⟩
          cases b with
          | false => exact hq _ _ z
          | true =>
            obtain ⟨a1, a2, a3, a4, a5, a6, a7, a8, a9, b1, b2, b3, b4, b5, b6, b7, b8, z⟩ := z
            exact ⟨a1, a2, a3, a4, a5, a6, a7, a8, a9, b1, b2, b3, b4, b5, b6, b7, b8, hq _ _ z⟩
      · refine if_yes (by simpa using hc) ?_
        exact k' 0 (if_neg hc)
abbrev sNn : Stmt := top 11
abbrev nNn : List Str := ["text"]
theorem scNn : FnScope nNn ["text"] (defScope sNn) := ⟨rfl, rfl, rfl, by decide +kernel, rfl, by decide +kernel, by decide +kernel⟩
theorem has_Nn {f : Addr} {fd : FuncData}  (F : Fun K "is_name" "is_name" sNn f fd) (g : mg "is_name" = some (.ref f)) (B : Blt mg) (hNl : Has P w K mg base 1 "name_length" ["text"] (spNl)) :
    Has P w K mg base 2 "is_name" ["text"] (spNn) := by
  obtain ⟨fNl, dNl, gNl, kNl, bNl, GNl⟩ := hNl
  refine has_of F g (F.binds (ps := ["text"]) fun _ _ _ _ _ _ us hl => match us, hl with | [_], _ => rfl) (F.ok scNn (fun vs H Q E h => ?_) (fun cdv A outer s H vs Q E hr h => ?_))
  · obtain ⟨x, rfl, _⟩ := h
    rfl
  · refine ⟨_, (pss_one (ps_ret (pe_and (pe_cmpR op_ne (pv 0) pe_str (nomark _)) (pe_one (pe_cmpR op_eq (pe_call GNl hr rfl gNl kNl bNl .nil pass0 (pa_cons (pv 0) pa_nil)) (pe_callB call_len (by rfl) B.len PySem.boot_len (pa_cons (pv 0) pa_nil)) (nomark _)))))), ?_⟩
    obtain ⟨x, rfl, hx, k⟩ := h
    have hz := big_line hx
    refine ⟨_, rfl, rfl, _, rfl, ?_⟩
    have done : ∀ b H', isNameB (cs x) = b → Same H H' → Q (.bl b) H' := fun b H' e s => by
      have z : Q (.bl (isNameB (cs x))) H' := k H' s
      rw [e] at z
      exact z
    by_cases h0 : x = ("" : Str)
    · subst h0
      exact if_no (by simp) (done false H (by decide +kernel) (Same.refl H))
    · refine if_yes (by simpa using h0) ⟨_, rfl, x, rfl, hx, fun H1 s1 => ⟨_, rfl, .str x, x.length, rfl, ⟨hz, rfl⟩, rfl, ?_⟩⟩
      refine done _ H1 ?_ s1
      have ne : (cs x).isEmpty = false := by
        cases e : cs x with
        | nil => exact absurd (cs_nil e) h0
        | cons c r => rfl
      unfold isNameB
      rw [ne, len_cs x]
      show (!false && nameLen (cs x) == (cs x).length) = decide (V.int (nameLen (cs x) : Int) = V.int ((cs x).length : Int))
      by_cases q : nameLen (cs x) = (cs x).length
      · rw [q, decide_eq_true rfl]
        simp
      · have q2 : ¬ ((nameLen (cs x) : Int) = ((cs x).length : Int)) := by omega
        rw [beq_eq_false_iff_ne.mpr q, decide_eq_false (fun z => q2 (V.int.inj z))]
        rfl
abbrev sIp : Stmt := top 12
abbrev nIp : List Str := ["text", "sign"]
theorem scIp : FnScope nIp ["text"] (defScope sIp) := ⟨rfl, rfl, rfl, by decide +kernel, rfl, by decide +kernel, by decide +kernel⟩
theorem has_Ip {f : Addr} {fd : FuncData}  (F : Fun K "is_place" "is_place" sIp f fd) (g : mg "is_place" = some (.ref f)) (B : Blt mg) (W : Wrt K w mg)  :
    Has P w K mg base 1 "is_place" ["text"] (spIp) := by
  refine has_of F g (F.binds (ps := ["text"]) fun _ _ _ _ _ _ us hl => match us, hl with | [_], _ => rfl) (F.ok scIp (fun vs H Q E h => ?_) (fun cdv A outer s H vs Q E hr h => ?_))
  · obtain ⟨x, rfl, _⟩ := h
    rfl
  · obtain ⟨pP, gP, sP⟩ := W.pls
    refine ⟨_, (pss_cons (ps_if (pt_cmpR op_in_seq (pv 0) (pe_glob (v := .ref pP) (by rfl) gP rfl) (by rfl)) (pss_one (ps_ret pe_bl)) pss_nil)
        (pss_one (ps_ret (pe_and (pe_cmpR op_ne (pv 0) pe_str (nomark _)) (pe_and (pe_cmpR op_ne (pe_ix ix_str (pv 0) pe_int (fun _ _ => rfl)) pe_str (nomark _)) (pe_one (pe_callB (cr_all rfl) (by rfl) B.all (by decide +kernel) (pa_cons (pe_lc (own := [("sign", 1)]) (g := gName 1) (tt := tYes) rfl scIp.nd (pi_str (pv 0)) (blkOk_by (N := nIp) (sc := defScope sIp) (by decide +kernel)) (fun _ _ _ _ _ => pg_name (i := 1) scIp.nd rfl (.inl rfl)) (fun _ _ _ _ _ => pts_nil) (fun _ _ _ _ _ => (pe_cmpR op_in_sign (pv 1) (glob_str (by rfl) W.dig) (by rfl)))) pa_nil)))))))), ?_⟩
    obtain ⟨x, rfl, hx, k⟩ := h
    have hz := big_line hx
    have done : ∀ b H', isPlB (cs x) = b → Same H H' → Q (.bl b) H' := fun b H' e s => by
      have z : Q (.bl (isPlB (cs x))) H' := k H' s
      rw [e] at z
      exact z
    have e0 : isPlB (cs x) = (inV (.str x) (plW.map V.str) || (!(cs x).isEmpty && (cs x).head? != some 48 && (cs x).all fun d => decide (d ∈ digC))) := by
      unfold isPlB
      rw [st_cs]
    refine ⟨_, rfl, pP, plW.map V.str, rfl, .inr (sP H), rfl, by decide +kernel, _, rfl, ?_⟩
    dsimp only
    rw [if_neg (by decide : ¬ false = true)]
    refine if_by (fun e => ?_) (fun e => ?_)
    · exact done _ H (by rw [e0, e]; rfl) (Same.refl H)
    rw [e, Bool.false_or] at e0
    refine ⟨_, rfl, rfl, _, rfl, ?_⟩
    by_cases h0 : x = ("" : Str)
    · subst h0
      exact if_no (by simp) (done false H (by rw [e0]; rfl) (Same.refl H))
    · obtain ⟨c, r, hl⟩ : ∃ c r, cs x = c :: r := by
        cases e : cs x with
        | nil => exact absurd (cs_nil e) h0
        | cons c r => exact ⟨c, r, rfl⟩
      have ac : atI (cs x) 0 = some c := atI_nat (j := 0) (by rw [hl]; rfl)
      refine if_yes (by simpa using h0) ⟨_, rfl, x, 0, c, rfl, rfl, hz, ac, rfl, _, rfl, ?_⟩
      have q48 : ∀ c : Nat, decide (V.str (⟨#[c]⟩ : Str) = V.str ("0" : Str)) = (c == 48) := fun c => by
        by_cases e : c = 48
        · subst e
          decide +kernel
        · rw [beq_eq_false_iff_ne.mpr e]
          refine decide_eq_false fun z => e ?_
          have y : cs (⟨#[c]⟩ : Str) = cs ("0" : Str) := congrArg cs (V.str.inj z)
          have w : cs ("0" : Str) = [48] := by decide +kernel
          rw [w] at y
          exact (List.cons.inj y).1
      refine if_by (fun e => ?_) (fun e => ?_)
      · have ec : (c == 48) = false := by rw [q48] at e; simpa using e
        refine ⟨_, rfl, x, rfl, fun D hD => lc_it walk_str (fun i H' => H' = L2.upd H D (.lst (((cs x).take i).map fun d => V.bl (decide (d ∈ cs digS))))) (by simp) (fun _ _ _ _ => trivial) (fun i v H' H2 hi e y => ?_) (fun H' e => ?_)⟩
        · obtain ⟨rfl, d, hd, rfl⟩ := y
          subst e
          have hd' : (cs x)[i]? = some d := by simpa using hd
          refine ⟨rfl, _, rfl, d, digS, rfl, rfl, _, upd_same, ?_, ?_⟩
          · rw [List.length_map, List.length_take]
            have := len_cs x
            rw [sizeLine_eq] at hz ⊢
            unfold big at hx
            omega
          · rw [upd_upd, take_snoc hd', List.map_append]
            rfl
        · subst e
          have e2 : (cs x).take x.cps.size = cs x := List.take_of_length_le (by simp)
          rw [e2]
          refine ⟨D, (cs x).map fun d => decide (d ∈ cs digS), rfl, SqL.of (by rw [upd_same, List.map_map]; rfl), ?_⟩
          refine done _ _ ?_ (same_upd hD)
          rw [e0, cs_dig, List.all_map, hl]
          show (!false && (some c != some 48) && _) = _
          rw [show (some c != some 48) = true by simpa using ec]
          rfl
      · have ec : c = 48 := by rw [q48] at e; simpa using e
        refine done false H ?_ (Same.refl H)
        rw [e0, hl, ec]
        rfl
end
end Qb
end PySem
namespace PySem
namespace Qb
open PySem.W PySem.Calls PyProof.Rows L2
/-! # is_sum, rank -/
def Sm.ok : Sm → Bool
  | .num n => decide (0 ≤ n)
  | .of w => isNameB (cs w) || (isPlB (cs w) && !inV (.str w) (alW.map V.str))
  | .one s a => (s == "minus" || s == "no") && a.ok
  | .two s a b => isOp s && (a.ok && b.ok)
  | .three s a b c => (s == "choose") && (a.ok && (b.ok && c.ok))
/-- kinds that are none of the others' -/
def Sm.fine : Sm → Prop
  | .num _ => True
  | .of w => w.length ≤ big
  | .one s a => s ≠ "number" ∧ s ≠ "of" ∧ a.fine
  | .two s a b => a.fine ∧ b.fine
  | .three s a b c => a.fine ∧ b.fine ∧ c.fine
def spIs (K : Frag) : Nat → Sp
  | 0 => fun _ _ _ _ => False
  | n + 1 => fun vs H Q _ => ∃ (v : V) (t : Sm), vs = [v] ∧ Dp K H v t.d ∧ t.ht ≤ n ∧ t.fine ∧ ∀ H', Same H H' → Q (.bl t.ok) H'
theorem dp_num {K : Frag} {H : Hp} {v : V} {n : Int} (h : Dp K H v (Sm.num n).d) : ∃ a, v = .ref a ∧ SqT K H a [.str "number", .int n] := by
  obtain ⟨a, x, rfl, hq, hx⟩ := pc_two h
  cases hx
  exact ⟨a, rfl, hq⟩
theorem dp_of {K : Frag} {H : Hp} {v : V} {w : Str} (h : Dp K H v (Sm.of w).d) : ∃ a, v = .ref a ∧ SqT K H a [.str "of", .str w] := dp_two h
theorem pc_four {K : Frag} {H : Hp} {v : V} {k : Str} {d e f : PyData} (h : Dp K H v (.tuple [.str k, d, e, f])) : ∃ a x y z, v = .ref a ∧ SqT K H a [.str k, x, y, z] ∧ Dp K H x d ∧ Dp K H y e ∧ Dp K H z f := by
  obtain ⟨a, xs, rfl, hq, all⟩ := dp_tup h
  cases all with
  | cons h1 t1 =>
    obtain rfl := dp_str h1
    cases t1 with
    | cons h2 t2 =>
      cases t2 with
      | cons h3 t3 =>
        cases t3 with
        | cons h4 t4 =>
          cases t4
          exact ⟨a, _, _, _, rfl, hq, h2, h3, h4⟩
theorem all_hit {K : Frag} {n : Nat} {is : List Nat} {t : TS} {rest : List (List Nat × PatR × TS)} {a : Addr} {ys : List V} {D : Ends} {σ : L2.St} {H : Hp} (hq : SqT K H a ys) (h : t D (setAll σ is ys) H) (hn : n = ys.length := by rfl) :
    tCases ((is, rSeq K n (List.replicate ys.length rCap), t) :: rest) (.ref a) D σ H := by
  subst hn
  refine ⟨a, _, rfl, hq, fun ne => absurd rfl ne, fun _ => ?_⟩
  exact each_caps (Q := fun o' => match o' with | none => tCases rest (.ref a) D σ H | some more => t D (setAll σ is more) H) h
theorem len_miss {K : Frag} {n : Nat} {is : List Nat} {rs : List PatR} {t : TS} {rest : List (List Nat × PatR × TS)} {a : Addr} {ys : List V} {D : Ends} {σ : L2.St} {H : Hp} (hq : SqT K H a ys) (hn : ys.length ≠ n) (h : tCases rest (.ref a) D σ H) :
    tCases ((is, rSeq K n rs, t) :: rest) (.ref a) D σ H := ⟨_, _, rfl, hq, fun _ => h, fun z => (hn z).elim⟩
theorem mn_hit {s : Str} (h : s = "minus" ∨ s = "no") : Hit (rOr [rLit "minus", rLit "no"]) s := by
  rcases h with rfl | rfl
  · exact hit_or hit_lit
  · exact hit_or2 (miss_lit (by decide +kernel)) (hit_or hit_lit)
theorem mn_miss {s : Str} (h : ¬(s = "minus" ∨ s = "no")) : Miss (rOr [rLit "minus", rLit "no"]) s :=
  miss_or (miss_lit fun z => h (.inl z)) (miss_or (miss_lit fun z => h (.inr z)) miss_or0)
section
variable {P : Program} {w : World} {K : Frag} {mg : Str → Option Value} {base : Heap}
abbrev sIs : Stmt := top 18
abbrev nIs : List Str := ["tree", "number", "name", "part", "test", "one", "other", "sign"]
theorem scIs : FnScope nIs ["tree"] (defScope sIs) := ⟨rfl, rfl, rfl, by decide +kernel, rfl, by decide +kernel, by decide +kernel⟩
theorem ok_Is {f : Addr} {fd : FuncData} (F : Fun K "is_sum" "is_sum" sIs f fd) (gIs : mg "is_sum" = some (.ref f)) (bIs : Binds K fd ["tree"] []) (B : Blt mg) (W : Wrt K w mg) (hIp : Has P w K mg base 1 "is_place" ["text"] (spIp)) (hNn : Has P w K mg base 2 "is_name" ["text"] (spNn)) :
    ∀ n, FnOk P w K mg base CX0 (n + 3) f fd ["tree"] (spIs K n)
  | 0 => F.ok scIs (fun vs H Q E h => h.elim) (fun cdv A outer s H vs Q E hr h => h.elim)
  | n + 1 => by
    have GIs := ok_Is F gIs bIs B W hIp hNn n
    have kIs := F.kp
    obtain ⟨fIp, dIp, gIp, kIp, bIp, GIp⟩ := hIp
    obtain ⟨fNn, dNn, gNn, kNn, bNn, GNn⟩ := hNn
    obtain ⟨pA, gA, sA⟩ := W.alls
    obtain ⟨dR, eR, nR, gR, DR, ns⟩ := W.rks
    refine F.ok scIs (fun vs H Q E h => ?_) (fun cdv A outer s H vs Q E hr h => ?_)
    · obtain ⟨v, t, rfl, _⟩ := h
      rfl
    · refine ⟨_, (pss_cons (ps_match (pv 0)
        (pcs_cons (is := [1]) scIs.nd (pp_seq rfl (pps_cons pp_lit (pps_cons pp_cap pps_nil))) (.cons ⟨rfl, .inl rfl, .inr rfl⟩ .nil)
          (pss_one (ps_ret (pe_cmpR op_ge (pv 1) pe_int (nomark _))))
        (pcs_cons (is := [2]) scIs.nd (pp_seq rfl (pps_cons pp_lit (pps_cons pp_cap pps_nil))) (.cons ⟨rfl, .inl rfl, .inr rfl⟩ .nil)
          (pss_one (ps_ret (pe_or (pe_call GNn (hr.mono (by omega)) rfl gNn kNn bNn .nil pass0 (pa_cons (pv 2) pa_nil)) (pe_one (pe_and (pe_call GIp (hr.mono (by omega)) rfl gIp kIp bIp .nil pass0 (pa_cons (pv 2) pa_nil)) (pe_one (pe_cmpR op_notIn_seq (pv 2) (pe_glob (v := .ref pA) (by rfl) gA rfl) (by rfl))))))))
        (pcs_cons (is := [3]) scIs.nd (pp_seq rfl (pps_cons (pp_or (pf_cons pp_lit (pf_cons pp_lit pf_nil))) (pps_cons pp_cap pps_nil))) (.cons ⟨rfl, .inl rfl, .inr rfl⟩ .nil)
          (pss_one (ps_ret (pe_call GIs (hr.mono (by omega)) rfl gIs kIs bIs .nil pass0 (pa_cons (pv 3) pa_nil))))
        (pcs_cons (is := [4, 5, 6]) scIs.nd (pp_seq rfl (pps_cons pp_lit (pps_cons pp_cap (pps_cons pp_cap (pps_cons pp_cap pps_nil))))) (.cons ⟨rfl, .inl rfl, .inr rfl⟩ (.cons ⟨rfl, .inl rfl, .inr rfl⟩ (.cons ⟨rfl, .inl rfl, .inr rfl⟩ .nil)))
          (pss_one (ps_ret (pe_and (pe_call GIs (hr.mono (by omega)) rfl gIs kIs bIs .nil pass0 (pa_cons (pv 4) pa_nil)) (pe_and (pe_call GIs (hr.mono (by omega)) rfl gIs kIs bIs .nil pass0 (pa_cons (pv 5) pa_nil)) (pe_one (pe_call GIs (hr.mono (by omega)) rfl gIs kIs bIs .nil pass0 (pa_cons (pv 6) pa_nil)))))))
        (pcs_cons (is := [7, 5, 6]) scIs.nd (pp_seq rfl (pps_cons pp_cap (pps_cons pp_cap (pps_cons pp_cap pps_nil)))) (.cons ⟨rfl, .inl rfl, .inr rfl⟩ (.cons ⟨rfl, .inl rfl, .inr rfl⟩ (.cons ⟨rfl, .inl rfl, .inr rfl⟩ .nil)))
          (pss_one (ps_ret (pe_and (pe_cmpR (op_in_kd DR) (pv 7) (pe_glob (v := .ref dR) (by rfl) gR rfl) (by rfl)) (pe_and (pe_call GIs (hr.mono (by omega)) rfl gIs kIs bIs .nil pass0 (pa_cons (pv 5) pa_nil)) (pe_one (pe_call GIs (hr.mono (by omega)) rfl gIs kIs bIs .nil pass0 (pa_cons (pv 6) pa_nil))))))) pcs_nil))))))
        (pss_one (ps_ret pe_bl))), ?_⟩
      obtain ⟨v, t, rfl, hd, hh, hf, k⟩ := h
      have k0 : Q (.bl t.ok) H := k H (Same.refl H)
      -- a part is asked
      have sub : ∀ {m : Nat} {u : Sm} {x : V} {H1 : Hp} {Q' : VK} {E' : XK}, u.ht + 1 ≤ n + 1 → n + 1 = m → u.fine → Dp K H1 x u.d → (∀ H2, Same H1 H2 → Q' (.bl u.ok) H2) → u.ht + 1 ≤ n → spIs K n ([x] ++ []) H1 Q' E' := by
        intro m u x H1 Q' E' _ _ uf ud q hn
        obtain ⟨n', rfl⟩ : ∃ n', n = n' + 1 := ⟨n - 1, by omega⟩
        exact ⟨x, u, rfl, ud, by omega, uf, q⟩
      cases t with
      | num i =>
        obtain ⟨a, rfl, hq⟩ := dp_num hd
        exact ⟨_, rfl, case_hit hq hit_lit ⟨_, rfl, _, _, rfl, rfl, k0⟩⟩
      | of x =>
        obtain ⟨a, rfl, hq⟩ := dp_of hd
        refine ⟨_, rfl, case_miss hq ml (case_hit hq hit_lit ⟨_, rfl, x, rfl, hf, fun H1 s1 => ⟨_, rfl, ?_⟩⟩)⟩
        have z := k H1 s1
        have e0 : (Sm.of x).ok = (isNameB (cs x) || (isPlB (cs x) && !inV (.str x) (alW.map V.str))) := rfl
        cases e : isNameB (cs x) with
        | true =>
          rw [e0, e] at z
          exact if_yes rfl z
        | false =>
          refine if_no rfl ⟨_, rfl, x, rfl, hf, fun H2 s2 => ⟨_, rfl, ?_⟩⟩
          have z := k H2 (s1.trans s2)
          cases e2 : isPlB (cs x) with
          | false =>
            rw [e0, e, e2] at z
            exact if_no rfl z
          | true =>
            rw [e0, e, e2] at z
            exact if_yes rfl ⟨_, rfl, pA, alW.map V.str, rfl, .inr (sA H2), rfl, by decide +kernel, z⟩
      | one s a =>
        obtain ⟨p, x, rfl, hq, hx⟩ := pc_two hd
        have ha : a.ht + 1 ≤ n := by
          have : 1 + a.ht ≤ n := hh
          omega
        refine ⟨_, rfl, case_miss hq (.inl (miss_lit hf.1)) (case_miss hq (.inl (miss_lit hf.2.1)) ?_)⟩
        by_cases c : s = "minus" ∨ s = "no"
        · refine case_hit hq (mn_hit c) ⟨_, rfl, sub (m := n + 1) (by omega) rfl hf.2.2 hx (fun H1 s1 => ?_) ha⟩
          have z := k H1 s1
          have e0 : (Sm.one s a).ok = ((s == "minus" || s == "no") && a.ok) := rfl
          rw [e0, show (s == "minus" || s == "no") = true by rcases c with rfl | rfl <;> rfl] at z
          exact z
        · refine case_miss hq (.inl (mn_miss c)) (len_miss hq (by simp) (len_miss hq (by simp) ?_))
          have e0 : (Sm.one s a).ok = ((s == "minus" || s == "no") && a.ok) := rfl
          rw [e0, show (s == "minus" || s == "no") = false by
            rw [beq_eq_false_iff_ne.mpr fun z => c (.inl z), beq_eq_false_iff_ne.mpr fun z => c (.inr z)]
            rfl] at k0
          exact k0
      | two s a b =>
        obtain ⟨p, x, y, rfl, hq, hx, hy⟩ := pc_three hd
        have hab : 1 + max a.ht b.ht ≤ n := hh
        refine ⟨_, rfl, len_miss hq (by simp) (len_miss hq (by simp) (len_miss hq (by simp) (len_miss hq (by simp) (all_hit hq ?_))))⟩
        have e0 : (Sm.two s a b).ok = (isOp s && (a.ok && b.ok)) := rfl
        refine ⟨_, rfl, ?_⟩
        cases e : isOp s with
        | false =>
          rw [e0, e] at k0
          exact ⟨s, none, rfl, rfl, (ns s).1 e, _, rfl, if_no rfl k0⟩
        | true =>
          obtain ⟨t, et⟩ := (ns s).2 e
          refine ⟨s, _, rfl, rfl, et, _, rfl, if_yes rfl ⟨_, rfl, sub (m := n + 1) (by omega) rfl hf.1 hx (fun H1 s1 => ⟨_, rfl, ?_⟩) (by omega)⟩⟩
          cases ea : a.ok with
          | false =>
            have z := k H1 s1
            rw [e0, e, ea] at z
            exact if_no rfl z
          | true =>
            refine if_yes rfl ⟨_, rfl, sub (m := n + 1) (by omega) rfl hf.2 (dp_same s1 hy) (fun H2 s2 => ?_) (by omega)⟩
            have z := k H2 (s1.trans s2)
            rw [e0, e, ea] at z
            exact z
      | three s a b c =>
        obtain ⟨p, x, y, z, rfl, hq, hx, hy, hz⟩ := pc_four hd
        have habc : 1 + max a.ht (max b.ht c.ht) ≤ n := hh
        refine ⟨_, rfl, len_miss hq (by simp) (len_miss hq (by simp) (len_miss hq (by simp) ?_))⟩
        have e0 : (Sm.three s a b c).ok = ((s == "choose") && (a.ok && (b.ok && c.ok))) := rfl
        by_cases c0 : s = "choose"
        · subst c0
          refine case_hit hq hit_lit ⟨_, rfl, sub (m := n + 1) (by omega) rfl hf.1 hx (fun H1 s1 => ⟨_, rfl, ?_⟩) (by omega)⟩
          have e1 : (Sm.three "choose" a b c).ok = (a.ok && (b.ok && c.ok)) := rfl
          cases ea : a.ok with
          | false =>
            have z := k H1 s1
            rw [e1, ea] at z
            exact if_no rfl z
          | true =>
            refine if_yes rfl ⟨_, rfl, sub (m := n + 1) (by omega) rfl hf.2.1 (dp_same s1 hy) (fun H2 s2 => ⟨_, rfl, ?_⟩) (by omega)⟩
            cases eb : b.ok with
            | false =>
              have z := k H2 (s1.trans s2)
              rw [e1, ea, eb] at z
              exact if_no rfl z
            | true =>
              refine if_yes rfl ⟨_, rfl, sub (m := n + 1) (by omega) rfl hf.2.2 (dp_same (s1.trans s2) hz) (fun H3 s3 => ?_) (by omega)⟩
              have z := k H3 ((s1.trans s2).trans s3)
              rw [e1, ea, eb] at z
              exact z
        · refine case_miss hq (.inl (miss_lit c0)) (len_miss hq (by simp) ?_)
          rw [e0, beq_eq_false_iff_ne.mpr c0] at k0
          exact k0
end
end Qb
end PySem
namespace PySem
namespace Qb
open PySem.W PySem.Calls PyProof.Rows L2
/-! # is_bare -/
def isBareB (l : List Nat) : Bool := !l.isEmpty && l.all fun d => decide (d ∈ cs bareS)
abbrev spIb : Sp := spTxt fun x => .bl (isBareB (cs x))
section
variable {P : Program} {w : World} {K : Frag} {mg : Str → Option Value} {base : Heap}
abbrev sIb : Stmt := top 13
abbrev nIb : List Str := ["text", "sign"]
theorem scIb : FnScope nIb ["text"] (defScope sIb) := ⟨rfl, rfl, rfl, by decide +kernel, rfl, by decide +kernel, by decide +kernel⟩
theorem has_Ib {f : Addr} {fd : FuncData} (F : Fun K "is_bare" "is_bare" sIb f fd) (g : mg "is_bare" = some (.ref f)) (B : Blt mg) (W : Wrt K w mg) :
    Has P w K mg base 1 "is_bare" ["text"] spIb := by
  refine has_of F g (F.binds (ps := ["text"]) fun _ _ _ _ _ _ us hl => match us, hl with | [_], _ => rfl) (F.ok scIb (fun vs H Q E h => ?_) (fun cdv A outer s H vs Q E hr h => ?_))
  · obtain ⟨x, rfl, _⟩ := h
    rfl
  · refine ⟨_, pss_one (ps_ret (pe_and (pe_cmpR op_ne (pv 0) pe_str (nomark _)) (pe_one (pe_callB (cr_all rfl) (by rfl) B.all (by decide +kernel) (pa_cons
        (pe_lc (own := [("sign", 1)]) (g := gName 1) (tt := tYes) rfl scIb.nd (pi_str (pv 0)) (blkOk_by (N := nIb) (sc := defScope sIb) (by decide +kernel))
          (fun _ _ _ _ _ => pg_name (i := 1) scIb.nd rfl (Or.inl rfl)) (fun _ _ _ _ _ => pts_nil) (fun _ _ _ _ _ => pe_cmpR op_in_sign (pv 1) (glob_str (by rfl) W.bare) (by rfl))) pa_nil))))), ?_⟩
    obtain ⟨x, rfl, hx, k⟩ := h
    have hz := big_line hx
    refine ⟨_, rfl, rfl, _, rfl, ?_⟩
    have done : ∀ b H', isBareB (cs x) = b → Same H H' → Q (.bl b) H' := fun b H' e s => by
      have z : Q (.bl (isBareB (cs x))) H' := k H' s
      rw [e] at z
      exact z
    by_cases h0 : x = ("" : Str)
    · subst h0
      exact if_no (by simp) (done false H (by decide +kernel) (Same.refl H))
    · refine if_yes (by simpa using h0) ⟨_, rfl, x, rfl, fun D hD => lc_it walk_str (fun i H' => H' = L2.upd H D (.lst (((cs x).take i).map fun d => V.bl (decide (d ∈ cs bareS))))) (by simp) (fun _ _ _ _ => trivial) (fun i v H' H2 hi e y => ?_) (fun H' e => ?_)⟩
      · obtain ⟨rfl, c, hc, rfl⟩ := y
        subst e
        have hc' : (cs x)[i]? = some c := by simpa using hc
        refine ⟨rfl, _, rfl, c, bareS, rfl, rfl, _, upd_same, ?_, ?_⟩
        · rw [List.length_map, List.length_take]
          have := len_cs x
          rw [sizeLine_eq] at hz ⊢
          unfold big at hx
          omega
        · rw [upd_upd, take_snoc hc', List.map_append]
          rfl
      · subst e
        have e1 : (cs x).take x.cps.size = cs x := List.take_of_length_le (by simp)
        rw [e1]
        refine ⟨D, (cs x).map fun d => decide (d ∈ cs bareS), rfl, SqL.of (by rw [upd_same, List.map_map]; rfl), ?_⟩
        refine done _ _ ?_ (same_upd hD)
        have ne : (cs x).isEmpty = false := by
          cases e : cs x with
          | nil => exact absurd (cs_nil e) h0
          | cons c r => rfl
        unfold isBareB
        rw [ne, List.all_map]
        simp
end
end Qb
end PySem
namespace PySem
namespace Qb
open PySem.W PySem.Calls PyProof.Rows L2
/-! # trees that may be no sums -/
inductive Tm where
  | num (i : Int)
  | of (w : Str)
  | odd (b : Bool)
  | one (s : Str) (a : Tm)
  | two (s : Str) (a b : Tm)
  | three (s : Str) (a b c : Tm)
def Tm.d : Tm → PyData
  | .num i => .tuple [.str "number", .int i]
  | .of w => .tuple [.str "of", .str w]
  | .odd b => if b = true then .tuple [.str "numbers", .int 1] else .tuple [.str "not"]
  | .one s a => .tuple [.str s, a.d]
  | .two s a b => .tuple [.str s, a.d, b.d]
  | .three s a b c => .tuple [.str s, a.d, b.d, c.d]
def Tm.ht : Tm → Nat
  | .num _ => 0
  | .of _ => 0
  | .odd _ => 0
  | .one _ a => 1 + a.ht
  | .two _ a b => 1 + max a.ht b.ht
  | .three _ a b c => 1 + max a.ht (max b.ht c.ht)
def Tm.ok : Tm → Bool
  | .num n => decide (0 ≤ n)
  | .of w => isNameB (cs w) || (isPlB (cs w) && !inV (.str w) (alW.map V.str))
  | .odd _ => false
  | .one s a => (s == "minus" || s == "no") && a.ok
  | .two s a b => isOp s && (a.ok && b.ok)
  | .three s a b c => (s == "choose") && (a.ok && (b.ok && c.ok))
/-- kinds that are none of the others' -/
def Tm.fine : Tm → Prop
  | .num _ => True
  | .of w => w.length ≤ big
  | .odd _ => True
  | .one s a => s ≠ "number" ∧ s ≠ "of" ∧ a.fine
  | .two s a b => a.fine ∧ b.fine
  | .three s a b c => a.fine ∧ b.fine ∧ c.fine
def Sm.tm : Sm → Tm
  | .num i => .num i
  | .of w => .of w
  | .one s a => .one s a.tm
  | .two s a b => .two s a.tm b.tm
  | .three s a b c => .three s a.tm b.tm c.tm
theorem tm_d : ∀ t : Sm, t.tm.d = t.d
  | .num i => rfl
  | .of w => rfl
  | .one s a => by show PyData.tuple [.str s, a.tm.d] = .tuple [.str s, a.d]; rw [tm_d a]
  | .two s a b => by show PyData.tuple [.str s, a.tm.d, b.tm.d] = .tuple [.str s, a.d, b.d]; rw [tm_d a, tm_d b]
  | .three s a b c => by show PyData.tuple [.str s, a.tm.d, b.tm.d, c.tm.d] = .tuple [.str s, a.d, b.d, c.d]; rw [tm_d a, tm_d b, tm_d c]
theorem tm_ht : ∀ t : Sm, t.tm.ht = t.ht
  | .num i => rfl
  | .of w => rfl
  | .one s a => by show 1 + a.tm.ht = 1 + a.ht; rw [tm_ht a]
  | .two s a b => by show 1 + max a.tm.ht b.tm.ht = 1 + max a.ht b.ht; rw [tm_ht a, tm_ht b]
  | .three s a b c => by show 1 + max a.tm.ht (max b.tm.ht c.tm.ht) = 1 + max a.ht (max b.ht c.ht); rw [tm_ht a, tm_ht b, tm_ht c]
theorem tm_ok : ∀ t : Sm, t.tm.ok = t.ok
  | .num i => rfl
  | .of w => rfl
  | .one s a => by show ((s == "minus" || s == "no") && a.tm.ok) = ((s == "minus" || s == "no") && a.ok); rw [tm_ok a]
  | .two s a b => by show (isOp s && (a.tm.ok && b.tm.ok)) = (isOp s && (a.ok && b.ok)); rw [tm_ok a, tm_ok b]
  | .three s a b c => by show ((s == "choose") && (a.tm.ok && (b.tm.ok && c.tm.ok))) = ((s == "choose") && (a.ok && (b.ok && c.ok))); rw [tm_ok a, tm_ok b, tm_ok c]
theorem tm_fine : ∀ {t : Sm}, t.fine → t.tm.fine
  | .num i, _ => trivial
  | .of w, h => h
  | .one s a, h => ⟨h.1, h.2.1, tm_fine h.2.2⟩
  | .two s a b, h => ⟨tm_fine h.1, tm_fine h.2⟩
  | .three s a b c, h => ⟨tm_fine h.1, tm_fine h.2.1, tm_fine h.2.2⟩
theorem tm_pl : ∀ {t : Tm} {n : Nat}, t.ht ≤ n → Pl (n + 1) t.d := by
  have st : ∀ (n : Nat) (x : Str), Pl n (.str x) := fun n x => by
    cases n with
    | zero => exact .inl ⟨x, rfl⟩
    | succ n => exact .inl (.inl ⟨x, rfl⟩)
  have it : ∀ (n : Nat) (x : Int), Pl n (.int x) := fun n x => by
    cases n with
    | zero => exact .inr (.inr (.inl ⟨x, rfl⟩))
    | succ n => exact .inl (.inr (.inr (.inl ⟨x, rfl⟩)))
  intro t
  induction t with
  | num i => exact fun _ => .inr ⟨_, .inr rfl, by show 2 ≤ 1000; decide, fun e m => by
      rcases List.mem_cons.mp m with rfl | m
      · exact st _ _
      · rw [List.mem_singleton.mp m]; exact it _ _⟩
  | of w => exact fun _ => .inr ⟨_, .inr rfl, by show 2 ≤ 1000; decide, fun e m => by
      rcases List.mem_cons.mp m with rfl | m
      · exact st _ _
      · rw [List.mem_singleton.mp m]; exact st _ _⟩
  | odd b =>
    intro n _
    cases b with
    | true => exact .inr ⟨_, .inr rfl, by show 2 ≤ 1000; decide, fun e m => by
        rcases List.mem_cons.mp m with rfl | m
        · exact st _ _
        · rw [List.mem_singleton.mp m]; exact it _ _⟩
    | false => exact .inr ⟨_, .inr rfl, by show 1 ≤ 1000; decide, fun e m => by
        rw [List.mem_singleton.mp m]; exact st _ _⟩
  | one s a ih =>
    intro n h
    have hh : (Tm.one s a).ht = 1 + a.ht := rfl
    obtain ⟨m, rfl⟩ : ∃ m, n = m + 1 := ⟨n - 1, by omega⟩
    exact .inr ⟨_, .inr rfl, by show 2 ≤ 1000; decide, fun e mm => by
      rcases List.mem_cons.mp mm with rfl | mm
      · exact st _ _
      · rw [List.mem_singleton.mp mm]; exact ih (by omega)⟩
  | two s a b ia ib =>
    intro n h
    have hh : (Tm.two s a b).ht = 1 + max a.ht b.ht := rfl
    obtain ⟨m, rfl⟩ : ∃ m, n = m + 1 := ⟨n - 1, by omega⟩
    exact .inr ⟨_, .inr rfl, by show 3 ≤ 1000; decide, fun e mm => by
      rcases List.mem_cons.mp mm with rfl | mm
      · exact st _ _
      rcases List.mem_cons.mp mm with rfl | mm
      · exact ia (by omega)
      · rw [List.mem_singleton.mp mm]; exact ib (by omega)⟩
  | three s a b c ia ib ic =>
    intro n h
    have hh : (Tm.three s a b c).ht = 1 + max a.ht (max b.ht c.ht) := rfl
    obtain ⟨m, rfl⟩ : ∃ m, n = m + 1 := ⟨n - 1, by omega⟩
    exact .inr ⟨_, .inr rfl, by show 4 ≤ 1000; decide, fun e mm => by
      rcases List.mem_cons.mp mm with rfl | mm
      · exact st _ _
      rcases List.mem_cons.mp mm with rfl | mm
      · exact ia (by omega)
      rcases List.mem_cons.mp mm with rfl | mm
      · exact ib (by omega)
      · rw [List.mem_singleton.mp mm]; exact ic (by omega)⟩
def spIsT (K : Frag) : Nat → Sp
  | 0 => fun _ _ _ _ => False
  | n + 1 => fun vs H Q _ => ∃ (v : V) (t : Tm), vs = [v] ∧ Dp K H v t.d ∧ t.ht ≤ n ∧ t.fine ∧ ∀ H', Same H H' → Q (.bl t.ok) H'
theorem is_imp {K : Frag} : ∀ n vs H Q E, spIs K n vs H Q E → spIsT K n vs H Q E
  | 0, _, _, _, _, h => h
  | n + 1, vs, H, Q, E, h => by
    obtain ⟨v, t, e, hd, hh, hf, k⟩ := h
    exact ⟨v, t.tm, e, by rw [tm_d]; exact hd, by rw [tm_ht]; exact hh, tm_fine hf, by rw [tm_ok]; exact k⟩
section
variable {P : Program} {w : World} {K : Frag} {mg : Str → Option Value} {base : Heap}
theorem ok_IsT {f : Addr} {fd : FuncData} (F : Fun K "is_sum" "is_sum" sIs f fd) (gIs : mg "is_sum" = some (.ref f)) (bIs : Binds K fd ["tree"] []) (B : Blt mg) (W : Wrt K w mg) (hIp : Has P w K mg base 1 "is_place" ["text"] (spIp)) (hNn : Has P w K mg base 2 "is_name" ["text"] (spNn)) :
    ∀ n, FnOk P w K mg base CX0 (n + 3) f fd ["tree"] (spIsT K n)
  | 0 => F.ok scIs (fun vs H Q E h => h.elim) (fun cdv A outer s H vs Q E hr h => h.elim)
  | n + 1 => by
    have GIs := ok_IsT F gIs bIs B W hIp hNn n
    have kIs := F.kp
    obtain ⟨fIp, dIp, gIp, kIp, bIp, GIp⟩ := hIp
    obtain ⟨fNn, dNn, gNn, kNn, bNn, GNn⟩ := hNn
    obtain ⟨pA, gA, sA⟩ := W.alls
    obtain ⟨dR, eR, nR, gR, DR, ns⟩ := W.rks
    refine F.ok scIs (fun vs H Q E h => ?_) (fun cdv A outer s H vs Q E hr h => ?_)
    · obtain ⟨v, t, rfl, _⟩ := h
      rfl
    · refine ⟨_, (pss_cons (ps_match (pv 0)
        (pcs_cons (is := [1]) scIs.nd (pp_seq rfl (pps_cons pp_lit (pps_cons pp_cap pps_nil))) (.cons ⟨rfl, .inl rfl, .inr rfl⟩ .nil)
          (pss_one (ps_ret (pe_cmpR op_ge (pv 1) pe_int (nomark _))))
        (pcs_cons (is := [2]) scIs.nd (pp_seq rfl (pps_cons pp_lit (pps_cons pp_cap pps_nil))) (.cons ⟨rfl, .inl rfl, .inr rfl⟩ .nil)
          (pss_one (ps_ret (pe_or (pe_call GNn (hr.mono (by omega)) rfl gNn kNn bNn .nil pass0 (pa_cons (pv 2) pa_nil)) (pe_one (pe_and (pe_call GIp (hr.mono (by omega)) rfl gIp kIp bIp .nil pass0 (pa_cons (pv 2) pa_nil)) (pe_one (pe_cmpR op_notIn_seq (pv 2) (pe_glob (v := .ref pA) (by rfl) gA rfl) (by rfl))))))))
        (pcs_cons (is := [3]) scIs.nd (pp_seq rfl (pps_cons (pp_or (pf_cons pp_lit (pf_cons pp_lit pf_nil))) (pps_cons pp_cap pps_nil))) (.cons ⟨rfl, .inl rfl, .inr rfl⟩ .nil)
          (pss_one (ps_ret (pe_call GIs (hr.mono (by omega)) rfl gIs kIs bIs .nil pass0 (pa_cons (pv 3) pa_nil))))
        (pcs_cons (is := [4, 5, 6]) scIs.nd (pp_seq rfl (pps_cons pp_lit (pps_cons pp_cap (pps_cons pp_cap (pps_cons pp_cap pps_nil))))) (.cons ⟨rfl, .inl rfl, .inr rfl⟩ (.cons ⟨rfl, .inl rfl, .inr rfl⟩ (.cons ⟨rfl, .inl rfl, .inr rfl⟩ .nil)))
          (pss_one (ps_ret (pe_and (pe_call GIs (hr.mono (by omega)) rfl gIs kIs bIs .nil pass0 (pa_cons (pv 4) pa_nil)) (pe_and (pe_call GIs (hr.mono (by omega)) rfl gIs kIs bIs .nil pass0 (pa_cons (pv 5) pa_nil)) (pe_one (pe_call GIs (hr.mono (by omega)) rfl gIs kIs bIs .nil pass0 (pa_cons (pv 6) pa_nil)))))))
        (pcs_cons (is := [7, 5, 6]) scIs.nd (pp_seq rfl (pps_cons pp_cap (pps_cons pp_cap (pps_cons pp_cap pps_nil)))) (.cons ⟨rfl, .inl rfl, .inr rfl⟩ (.cons ⟨rfl, .inl rfl, .inr rfl⟩ (.cons ⟨rfl, .inl rfl, .inr rfl⟩ .nil)))
          (pss_one (ps_ret (pe_and (pe_cmpR (op_in_kd DR) (pv 7) (pe_glob (v := .ref dR) (by rfl) gR rfl) (by rfl)) (pe_and (pe_call GIs (hr.mono (by omega)) rfl gIs kIs bIs .nil pass0 (pa_cons (pv 5) pa_nil)) (pe_one (pe_call GIs (hr.mono (by omega)) rfl gIs kIs bIs .nil pass0 (pa_cons (pv 6) pa_nil))))))) pcs_nil))))))
        (pss_one (ps_ret pe_bl))), ?_⟩
      obtain ⟨v, t, rfl, hd, hh, hf, k⟩ := h
      have k0 : Q (.bl t.ok) H := k H (Same.refl H)
      -- a part is asked
      have sub : ∀ {m : Nat} {u : Tm} {x : V} {H1 : Hp} {Q' : VK} {E' : XK}, u.ht + 1 ≤ n + 1 → n + 1 = m → u.fine → Dp K H1 x u.d → (∀ H2, Same H1 H2 → Q' (.bl u.ok) H2) → u.ht + 1 ≤ n → spIsT K n ([x] ++ []) H1 Q' E' := by
        intro m u x H1 Q' E' _ _ uf ud q hn
        obtain ⟨n', rfl⟩ : ∃ n', n = n' + 1 := ⟨n - 1, by omega⟩
        exact ⟨x, u, rfl, ud, by omega, uf, q⟩
      cases t with
      | num i =>
        obtain ⟨a, rfl, hq⟩ := dp_num hd
        exact ⟨_, rfl, case_hit hq hit_lit ⟨_, rfl, _, _, rfl, rfl, k0⟩⟩
      | of x =>
        obtain ⟨a, rfl, hq⟩ := dp_of hd
        refine ⟨_, rfl, case_miss hq ml (case_hit hq hit_lit ⟨_, rfl, x, rfl, hf, fun H1 s1 => ⟨_, rfl, ?_⟩⟩)⟩
        have z := k H1 s1
        have e0 : (Tm.of x).ok = (isNameB (cs x) || (isPlB (cs x) && !inV (.str x) (alW.map V.str))) := rfl
        cases e : isNameB (cs x) with
        | true =>
          rw [e0, e] at z
          exact if_yes rfl z
        | false =>
          refine if_no rfl ⟨_, rfl, x, rfl, hf, fun H2 s2 => ⟨_, rfl, ?_⟩⟩
          have z := k H2 (s1.trans s2)
          cases e2 : isPlB (cs x) with
          | false =>
            rw [e0, e, e2] at z
            exact if_no rfl z
          | true =>
            rw [e0, e, e2] at z
            exact if_yes rfl ⟨_, rfl, pA, alW.map V.str, rfl, .inr (sA H2), rfl, by decide +kernel, z⟩
      | odd b =>
        cases b with
        | true =>
          obtain ⟨p, x, rfl, hq, hx⟩ := pc_two (show Dp K H v (.tuple [.str "numbers", .int 1]) from hd)
          exact ⟨_, rfl, case_miss hq (.inl (miss_lit (by decide +kernel))) (case_miss hq (.inl (miss_lit (by decide +kernel))) (case_miss hq (.inl (mn_miss (by decide +kernel))) (len_miss hq (by simp) (len_miss hq (by simp) k0))))⟩
        | false =>
          obtain ⟨p, rfl, hq⟩ : ∃ p, v = .ref p ∧ SqT K H p [.str "not"] := by
            obtain ⟨p, xs, rfl, hq, all⟩ := dp_tup (show Dp K H v (.tuple [.str "not"]) from hd)
            cases all with
            | cons h1 t1 =>
              cases t1
              obtain rfl := dp_str h1
              exact ⟨p, rfl, hq⟩
          exact ⟨_, rfl, len_miss hq (by simp) (len_miss hq (by simp) (len_miss hq (by simp) (len_miss hq (by simp) (len_miss hq (by simp) k0))))⟩
      | one s a =>
        obtain ⟨p, x, rfl, hq, hx⟩ := pc_two hd
        have ha : a.ht + 1 ≤ n := by
          have : 1 + a.ht ≤ n := hh
          omega
        refine ⟨_, rfl, case_miss hq (.inl (miss_lit hf.1)) (case_miss hq (.inl (miss_lit hf.2.1)) ?_)⟩
        by_cases c : s = "minus" ∨ s = "no"
        · refine case_hit hq (mn_hit c) ⟨_, rfl, sub (m := n + 1) (by omega) rfl hf.2.2 hx (fun H1 s1 => ?_) ha⟩
          have z := k H1 s1
          have e0 : (Tm.one s a).ok = ((s == "minus" || s == "no") && a.ok) := rfl
          rw [e0, show (s == "minus" || s == "no") = true by rcases c with rfl | rfl <;> rfl] at z
          exact z
        · refine case_miss hq (.inl (mn_miss c)) (len_miss hq (by simp) (len_miss hq (by simp) ?_))
          have e0 : (Tm.one s a).ok = ((s == "minus" || s == "no") && a.ok) := rfl
          rw [e0, show (s == "minus" || s == "no") = false by
            rw [beq_eq_false_iff_ne.mpr fun z => c (.inl z), beq_eq_false_iff_ne.mpr fun z => c (.inr z)]
            rfl] at k0
          exact k0
      | two s a b =>
        obtain ⟨p, x, y, rfl, hq, hx, hy⟩ := pc_three hd
        have hab : 1 + max a.ht b.ht ≤ n := hh
        refine ⟨_, rfl, len_miss hq (by simp) (len_miss hq (by simp) (len_miss hq (by simp) (len_miss hq (by simp) (all_hit hq ?_))))⟩
        have e0 : (Tm.two s a b).ok = (isOp s && (a.ok && b.ok)) := rfl
        refine ⟨_, rfl, ?_⟩
        cases e : isOp s with
        | false =>
          rw [e0, e] at k0
          exact ⟨s, none, rfl, rfl, (ns s).1 e, _, rfl, if_no rfl k0⟩
        | true =>
          obtain ⟨t, et⟩ := (ns s).2 e
          refine ⟨s, _, rfl, rfl, et, _, rfl, if_yes rfl ⟨_, rfl, sub (m := n + 1) (by omega) rfl hf.1 hx (fun H1 s1 => ⟨_, rfl, ?_⟩) (by omega)⟩⟩
          cases ea : a.ok with
          | false =>
            have z := k H1 s1
            rw [e0, e, ea] at z
            exact if_no rfl z
          | true =>
            refine if_yes rfl ⟨_, rfl, sub (m := n + 1) (by omega) rfl hf.2 (dp_same s1 hy) (fun H2 s2 => ?_) (by omega)⟩
            have z := k H2 (s1.trans s2)
            rw [e0, e, ea] at z
            exact z
      | three s a b c =>
        obtain ⟨p, x, y, z, rfl, hq, hx, hy, hz⟩ := pc_four hd
        have habc : 1 + max a.ht (max b.ht c.ht) ≤ n := hh
        refine ⟨_, rfl, len_miss hq (by simp) (len_miss hq (by simp) (len_miss hq (by simp) ?_))⟩
        have e0 : (Tm.three s a b c).ok = ((s == "choose") && (a.ok && (b.ok && c.ok))) := rfl
        by_cases c0 : s = "choose"
        · subst c0
          refine case_hit hq hit_lit ⟨_, rfl, sub (m := n + 1) (by omega) rfl hf.1 hx (fun H1 s1 => ⟨_, rfl, ?_⟩) (by omega)⟩
          have e1 : (Tm.three "choose" a b c).ok = (a.ok && (b.ok && c.ok)) := rfl
          cases ea : a.ok with
          | false =>
            have z := k H1 s1
            rw [e1, ea] at z
            exact if_no rfl z
          | true =>
            refine if_yes rfl ⟨_, rfl, sub (m := n + 1) (by omega) rfl hf.2.1 (dp_same s1 hy) (fun H2 s2 => ⟨_, rfl, ?_⟩) (by omega)⟩
            cases eb : b.ok with
            | false =>
              have z := k H2 (s1.trans s2)
              rw [e1, ea, eb] at z
              exact if_no rfl z
            | true =>
              refine if_yes rfl ⟨_, rfl, sub (m := n + 1) (by omega) rfl hf.2.2 (dp_same (s1.trans s2) hz) (fun H3 s3 => ?_) (by omega)⟩
              have z := k H3 ((s1.trans s2).trans s3)
              rw [e1, ea, eb] at z
              exact z
        · refine case_miss hq (.inl (miss_lit c0)) (len_miss hq (by simp) ?_)
          rw [e0, beq_eq_false_iff_ne.mpr c0] at k0
          exact k0
end
end Qb
end PySem
namespace PySem
namespace Qb
open PySem.W PySem.Calls PyProof.Rows L2
/-! # has_neighbours; x in a tuple of data -/
/-- the first text of a tuple -/
def headK : PyData → Str
  | .tuple (.str k :: _) => k
  | _ => ""
def nbB (k : Str) (ds : List PyData) : Bool := (ds.zip (ds.drop 1)).any fun p => decide (headK p.1 = k) && decide (headK p.2 = k)
def spNb (K : Frag) : Sp := fun vs H Q _ => ∃ v k ds, vs = [v, .str k] ∧ Dp K H v (.list ds) ∧ ds.length ≤ 1000 ∧ (∀ d ∈ ds, ∃ y r, d = .tuple (.str y :: r)) ∧ ∀ H', Same H H' → Q (.bl (nbB k ds)) H'
theorem cut_tail (xs : List V) : cutV xs (some 1) none = xs.drop 1 := by
  have h1 : HT.sIx xs.length 0 (some (1 : Int)) = min 1 xs.length := HT.sIx_nat xs.length 0 1
  unfold cutV
  rw [h1, HT.sIx_none]
  cases xs with
  | nil => rfl
  | cons x xs =>
    have e : min 1 (x :: xs).length = 1 := by simp
    rw [e]
    exact List.take_of_length_le (by simp)
theorem head_read {K : Frag} {H : Hp} {x : V} {y : Str} {r : List PyData} (h : Dp K H x (.tuple (.str y :: r))) : ∃ b z, x = .ref b ∧ SqT K H b (.str y :: z) := by
  obtain ⟨b, zs, rfl, q, all⟩ := dp_tup h
  cases all with
  | cons h1 h2 =>
    obtain rfl := dp_str h1
    exact ⟨b, _, rfl, q⟩
/-- x in a tuple of data -/
def rInTD (K : PySem.W.Frag) : R2 := fun x y H Q => ∃ d ds, Dp K H x d ∧ Dp K H y (.tuple ds) ∧ SeqAt.shaped d = true ∧ SeqAt.shaped (.tuple ds) = true ∧ Q (.bl (ds.any fun z => PyData.eqv z d)) H
theorem op_inTD {X : Cx} (hu : X.A.units + 65 < cLine) : OpR X (compareOp .In) (rInTD X.K) := by
  intro pins s σ H x y v u Q I rx ry h
  obtain ⟨d, ds, hd, he, sd, se, q⟩ := h
  obtain ⟨as, r1⟩ := Dp.reads I d x v hd rx
  obtain ⟨bs, r2⟩ := Dp.reads I (.tuple ds) y u he ry
  exact SeqAt.in_tuple_reads r2 r1 (SeqAt.canLay_of_shaped (d := .list ds) (by rw [← se]; rfl)) (SeqAt.canLay_of_shaped sd) (room_in_shaped sd hu) ⟨.bl _, H, I, rfl, q⟩
section
variable {P : Program} {w : World} {K : Frag} {mg : Str → Option Value} {base : Heap}
abbrev sHn : Stmt := top 29
abbrev nHn : List Str := ["pieces", "kind", "one", "other"]
theorem scHn : FnScope nHn ["pieces", "kind"] (defScope sHn) := ⟨rfl, rfl, rfl, by decide +kernel, rfl, by decide +kernel, by decide +kernel⟩
theorem has_Hn {f : Addr} {fd : FuncData} (F : Fun K "has_neighbours" "has_neighbours" sHn f fd) (g : mg "has_neighbours" = some (.ref f)) (B : Blt mg) :
    Has P w K mg base 1 "has_neighbours" ["pieces", "kind"] (spNb K) := by
  refine has_of F g (F.binds (ps := ["pieces", "kind"]) fun _ _ _ _ _ _ us hl => match us, hl with | [_, _], _ => rfl) (F.ok scHn (fun vs H Q E h => ?_) (fun cdv A outer s H vs Q E hr h => ?_))
  · obtain ⟨v, k, ds, rfl, _⟩ := h
    rfl
  · refine ⟨_, pss_one (ps_ret (pe_callB (cr_any rfl) (by rfl) B.any (by decide +kernel) (pa_cons
        (pe_lc (te := tAndV (tOp rEq (tOp (rIxT K) (tVar 2) (tC (.int 0))) (tVar 1)) (tOp rEq (tOp (rIxT K) (tVar 3) (tC (.int 0))) (tVar 1))) (own := [("one", 2), ("other", 3)]) (g := gTup K 2 (gCons (gName 2) (gCons (gName 3) gNil))) (tt := tYes) rfl scHn.nd (pi_zip (by rfl) B.zip (pa_cons (pv 0) (pa_cons (pe_slice sl_list (pv 0) (po_some pe_int) po_none) pa_nil)))
          (blkOk_by (N := ["pieces", "kind", "one", "other"]) (sc := defScope sHn) (by decide +kernel))
          (fun _ _ _ _ _ => pg_tup rfl (pgs_cons (pg_name (i := 2) scHn.nd rfl (Or.inl rfl)) (pgs_cons (pg_name (i := 3) scHn.nd rfl (Or.inl rfl)) pgs_nil))) (fun _ _ _ _ _ => pts_nil)
          (fun _ _ _ _ _ => pe_and (pe_cmpR op_eq (pe_ix ix_tup (pv 2) pe_int (fun _ _ => rfl)) (pv 1) (nomark _)) (pe_one (pe_cmpR op_eq (pe_ix ix_tup (pv 3) pe_int (fun _ _ => rfl)) (pv 1) (nomark _))))) pa_nil))), ?_⟩
    obtain ⟨v, k, ds, rfl, hd, hl, hk, kk⟩ := h
    obtain ⟨a, xs, rfl, hq, hxs⟩ := dp_lst hd
    have lx := dpLen hxs
    refine ⟨_, rfl, _, rfl, _, rfl, a, xs, rfl, hq, fun p np => ?_⟩
    have cut : cutV xs (some 1) none = xs.drop 1 := cut_tail xs
    have s1 := same_upd (o := .lst (xs.drop 1)) np
    rw [cut]
    have hmin : min xs.length (xs.drop 1).length = (ds.zip (ds.drop 1)).length := by
      rw [List.length_zip, List.length_drop, List.length_drop, lx]
    refine ⟨a, p, xs, xs.drop 1, rfl, s1.seq hq, SqL.of upd_same, fun D hD => lc_it (walk_zip (n := (ds.zip (ds.drop 1)).length) hmin.symm)
      (fun i H' => Same (L2.upd H p (.lst (xs.drop 1))) H' ∧ H' D = some (.lst (((ds.zip (ds.drop 1)).take i).map fun q => V.bl (decide (headK q.1 = k) && decide (headK q.2 = k)))))
      ⟨same_upd hD, upd_same⟩ (fun i H' _ e => ⟨e.1.seq (s1.seq hq), e.1.seq (SqL.of upd_same)⟩) (fun i v H' H2 hi e y => ?_) (fun H' e => ?_)⟩
    · obtain ⟨sm, hD'⟩ := e
      obtain ⟨T, x1, x2, rfl, nT, rfl, h1, h2⟩ := y
      obtain ⟨q, hq2⟩ : ∃ q, (ds.zip (ds.drop 1))[i]? = some q := ⟨_, List.getElem?_eq_getElem hi⟩
      obtain ⟨d1, d2⟩ := q
      obtain ⟨hd1, hd2⟩ : ds[i]? = some d1 ∧ (ds.drop 1)[i]? = some d2 := by
        rw [List.getElem?_zip_eq_some] at hq2
        exact hq2
      have sT := sm.trans (same_upd (o := .tup [x1, x2]) nT)
      have sA := s1.trans sT
      have hd2' : ds[1 + i]? = some d2 := by rw [← List.getElem?_drop]; exact hd2
      have h2' : xs[1 + i]? = some x2 := by rw [← List.getElem?_drop]; exact h2
      obtain ⟨e1, he1, p1⟩ := dpAt' hxs h1
      obtain ⟨e2, he2, p2⟩ := dpAt' hxs h2'
      rw [hd1] at he1
      obtain rfl := Option.some.inj he1
      rw [hd2'] at he2
      obtain rfl := Option.some.inj he2
      obtain ⟨y1, r1, rfl⟩ := hk d1 (List.mem_of_getElem? hd1)
      obtain ⟨y2, r2, rfl⟩ := hk d2 (List.mem_of_getElem? hd2')
      obtain ⟨b1, z1, rfl, q1⟩ := head_read (dp_same sA p1)
      obtain ⟨b2, z2, rfl, q2⟩ := head_read (dp_same sA p2)
      have hDT : D ≠ T := ne_of_none hD' nT
      have fin : ∀ b, (decide (y1 = k) && decide (y2 = k)) = b → ∃ acc, (L2.upd H' T (.tup [V.ref b1, V.ref b2])) D = some (.lst acc) ∧ acc.length < sizeLine ∧
          (Same (L2.upd H p (.lst (xs.drop 1))) (L2.upd (L2.upd H' T (.tup [V.ref b1, V.ref b2])) D (.lst (acc ++ [V.bl b]))) ∧
            (L2.upd (L2.upd H' T (.tup [V.ref b1, V.ref b2])) D (.lst (acc ++ [V.bl b]))) D = some (.lst (((ds.zip (ds.drop 1)).take (i + 1)).map fun q => V.bl (decide (headK q.1 = k) && decide (headK q.2 = k))))) := fun b eb => by
        refine ⟨_, by rw [upd_ne hDT]; exact hD', ?_, same_upd2 sT hD, ?_⟩
        · rw [List.length_map, List.length_take, sizeLine_eq]
          have : (ds.zip (ds.drop 1)).length ≤ ds.length := by
            rw [List.length_zip]
            omega
          omega
        · rw [upd_same, take_snoc hq2, List.map_append]
          show _ = some (HO.lst (_ ++ [V.bl (decide (y1 = k) && decide (y2 = k))]))
          rw [eb]
      refine ⟨T, [V.ref b1, V.ref b2], rfl, SqT.of upd_same, rfl, _, _, rfl, _, _, rfl, rfl, rfl, ?_⟩
      refine ⟨_, rfl, b1, _, 0, _, rfl, rfl, q1, atI_nat (j := 0) rfl, _, rfl, rfl, _, rfl, if_by (fun e => ?_) (fun e => ?_)⟩
      · have e' : y1 = k := by simpa using e
        refine ⟨_, rfl, b2, _, 0, _, rfl, rfl, q2, atI_nat (j := 0) rfl, _, rfl, rfl, ?_⟩
        refine fin _ ?_
        rw [decide_eq_true e', Bool.true_and]
        by_cases e2 : y2 = k
        · rw [decide_eq_true e2, decide_eq_true (congrArg V.str e2)]
        · rw [decide_eq_false e2, decide_eq_false (fun z => e2 (V.str.inj z))]
      · have e' : ¬ y1 = k := by simpa using e
        exact fin false (by rw [decide_eq_false e', Bool.false_and])
    · obtain ⟨sm, hD'⟩ := e
      rw [List.take_length] at hD'
      refine ⟨D, (ds.zip (ds.drop 1)).map fun q => decide (headK q.1 = k) && decide (headK q.2 = k), rfl, SqL.of (by rw [hD', List.map_map]; rfl), ?_⟩
      have z := kk H' (s1.trans sm)
      have e : nbB k ds = ((ds.zip (ds.drop 1)).map fun q => decide (headK q.1 = k) && decide (headK q.2 = k)).any id := by
        rw [List.any_map]
        rfl
      rw [e] at z
      exact z
end
end Qb
end PySem
namespace PySem
namespace Qb
open PySem.W PySem.Calls PyProof.Rows L2
/-! # words, pieces and deeds, right ones and others -/
inductive All2 {α β : Type} (R : α → β → Prop) : List α → List β → Prop
  | nil : All2 R [] []
  | cons {a : α} {b : β} {as : List α} {bs : List β} (h : R a b) (t : All2 R as bs) : All2 R (a :: as) (b :: bs)
theorem All2.len {α β : Type} {R : α → β → Prop} : ∀ {as : List α} {bs : List β}, All2 R as bs → as.length = bs.length
  | _, _, .nil => rfl
  | _, _, .cons _ t => congrArg Nat.succ t.len
theorem All2.at {α β : Type} {R : α → β → Prop} : ∀ {as : List α} {bs : List β} {i : Nat} {a : α}, All2 R as bs → as[i]? = some a → ∃ b, bs[i]? = some b ∧ R a b
  | _, _, _, _, .nil, e => by cases e
  | _, _, 0, _, .cons h _, e => by
    obtain rfl := Option.some.inj e
    exact ⟨_, rfl, h⟩
  | _, _, i + 1, _, .cons _ t, e => All2.at (i := i) t e
theorem All2.mem {α β : Type} {R : α → β → Prop} {as : List α} {bs : List β} (h : All2 R as bs) {a : α} (m : a ∈ as) : ∃ b ∈ bs, R a b := by
  obtain ⟨i, hi⟩ := List.getElem?_of_mem m
  obtain ⟨b, hb, r⟩ := h.at hi
  exact ⟨b, List.mem_of_getElem? hb, r⟩
theorem All2.app {α β : Type} {R : α → β → Prop} : ∀ {as as' : List α} {bs bs' : List β}, All2 R as bs → All2 R as' bs' → All2 R (as ++ as') (bs ++ bs')
  | _, _, _, _, .nil, h => h
  | _, _, _, _, .cons h t, g => .cons h (t.app g)
theorem All2.imp {α β : Type} {R S : α → β → Prop} (f : ∀ a b, R a b → S a b) : ∀ {as : List α} {bs : List β}, All2 R as bs → All2 S as bs
  | _, _, .nil => .nil
  | _, _, .cons h t => .cons (f _ _ h) (t.imp f)
def sizD : PyData := .tuple [.str "size"]
def must0 : PyData := .tuple [.str "must", .bool false, .list []]
def cut0 : PyData := .tuple [.str "cut", .str "#", .list []]
def shownB (x : Str) (d : PyData) : Bool := decide (x = "#") && [must0, cut0].any fun z => PyData.eqv z d
def dd4 : List Str := ["lack", "set", "must", "other"]
/-- trees as they are drawn here: sums, and a few that are none -/
def Tm.lawf : Tm → Prop
  | .num _ => True
  | .of _ => True
  | .odd _ => False
  | .one s a => (s = "minus" ∨ s = "no" ∨ s = "zip") ∧ a.lawf
  | .two s a b => isOp s = true ∧ a.lawf ∧ b.lawf
  | .three s a b c => s = "choose" ∧ a.lawf ∧ b.lawf ∧ c.lawf
/-- data that can be shown -/
structure Rp (n m : Nat) (d : PyData) : Prop where
  sh : Sh n d
  sw : d.showable = true
  nd : d.hasDict = false
  len : (cs d.shown).length ≤ m
structure Tx (x : Str) : Prop where
  len : x.length ≤ 20
  ok : PyData.strOk x = true
/-- a piece of a kind and a text -/
def txtB (i : Bool) (k x : Str) : Bool :=
  if i = true then decide (k = "plain") && decide (x ≠ "") else
  if k = "bare" then isBareB (cs x) else if k = "held" then !decide (39 ∈ cs x) else if k = "mark" then decide (x.length = 1) && decide (x ≠ "\n") else false
structure TxK (k : Str) : Prop where
  wide : k ≠ "wide"
  name : k ≠ "name"
  sum : k ≠ "sum"
  run : k ≠ "run"
  ok : PyData.strOk k = true
  len : k.length ≤ 20
abbrev WR := List PyData → Bool → Bool → Prop
/-- a deed on the name x: whether it is let, and whether the runs within are right -/
def DdR (W : WR) (x : Str) (d : PyData) (b r : Bool) : Prop :=
  (d = .tuple [] ∧ b = true ∧ r = true) ∨ (d = sizD ∧ b = true ∧ r = true) ∨
  (∃ k c ws bw rw, d = .tuple [.str k, .bool c, .list ws] ∧ (k ∈ dd4 ∨ k = "zip") ∧ W ws bw rw ∧ b = (!shownB x d && (decide (k ∈ dd4) && bw)) ∧ r = (!decide (k ∈ dd4) || rw)) ∨
  (∃ m ws bw rw, d = .tuple [.str "cut", .str m, .list ws] ∧ Tx m ∧ W ws bw rw ∧ b = (!shownB x d && (decide (m ∈ cutW) && bw)) ∧ r = rw)
def DlR (CR : PyData → Bool → Prop) (W : WR) (p : PyData) (b r : Bool) : Prop :=
  (∃ x d bd, p = .tuple [.str "name", .str x, d] ∧ Tx x ∧ DdR W x d bd r ∧ b = ((isNameB (cs x) || isPlB (cs x)) && bd)) ∨
  (∃ t : Tm, p = .tuple [.str "sum", t.d] ∧ (t.fine ∧ t.lawf) ∧ t.ht ≤ 12 ∧ Rp 14 1200 t.d ∧ b = t.ok ∧ r = true) ∨
  (∃ (cs : List PyData) (bs : List Bool), p = .tuple [.str "run", .list cs] ∧ cs.length ≤ 1 ∧ All2 CR cs bs ∧ (∀ c ∈ cs, Sh 13 c) ∧ b = true ∧ r = bs.all id)
def PcR (CR : PyData → Bool → Prop) (Wb Ww : WR) (i : Bool) (p : PyData) (b r : Bool) : Prop :=
  (∃ k x, p = .tuple [.str k, .str x] ∧ TxK k ∧ Tx x ∧ b = txtB i k x ∧ r = true) ∨
  (∃ ws bw rw, p = .tuple [.str "wide", .list ws] ∧ Ww ws bw rw ∧ b = (!i && bw) ∧ r = rw) ∨ DlR CR Wb p b r
def nbK (i : Bool) : Str := if i = true then "plain" else "bare"
def WsR (CR : PyData → Bool → Prop) : Nat → Bool → WR
  | 0, _ => fun _ _ _ => False
  | n + 1, i => fun ws b r => ws.length ≤ n + 3 ∧ ∃ ps : List (Bool × Bool), All2 (fun p q => PcR CR (WsR CR n false) (WsR CR n true) i p q.1 q.2) ws ps ∧ b = (ps.all (·.1) && !nbB (nbK i) ws) ∧ r = ps.all (·.2)
theorem sh_bl {b : Bool} : Sh 0 (.bool b) := ⟨by first | rfl | rw [PyData.canLay0.eq_2] | simp [PyData.canLay0], Nat.le_of_eq rfl⟩
theorem all_two {P : PyData → Prop} {a b : PyData} (ha : P a) (hb : P b) : ∀ d ∈ [a, b], P d := fun d m => by
  rcases List.mem_cons.mp m with rfl | m
  · exact ha
  · rw [List.mem_singleton.mp m]; exact hb
theorem all_three {P : PyData → Prop} {a b c : PyData} (ha : P a) (hb : P b) (hc : P c) : ∀ d ∈ [a, b, c], P d := fun d m => by
  rcases List.mem_cons.mp m with rfl | m
  · exact ha
  · exact all_two hb hc d m
theorem dd_sh {W : WR} {n : Nat} (h : ∀ ws b r, W ws b r → ∀ p ∈ ws, Sh n p) {x : Str} {d : PyData} {b r : Bool} (hd : DdR W x d b r) : Sh (n + 2) d := by
  have s0 : ∀ {m : Nat} {x : Str}, PyData.strOk x = true → Sh m (.str x) := fun h => sh_mono (sh_str h) (Nat.zero_le _)
  rcases hd with ⟨rfl, _, _⟩ | ⟨rfl, _, _⟩ | ⟨k, c, ws, bw, rw, rfl, hk, hw, _, _⟩ | ⟨m, ws, bw, rw, rfl, hm, hw, _, _⟩
  · exact sh_mono (sh_tup (n := 0) (fun d m => by cases m)) (by omega)
  · exact sh_mono (sh_tup (n := 0) (fun d m => by rw [List.mem_singleton.mp m]; exact sh_str (by decide +kernel))) (by omega)
  · have ok : PyData.strOk k = true := by
      rcases hk with hk | rfl
      · exact (by decide +kernel : ∀ k ∈ dd4, PyData.strOk k = true) k hk
      · decide +kernel
    exact sh_tup (n := n + 1) (all_three (s0 ok) (sh_mono sh_bl (Nat.zero_le _)) (sh_lst (h _ _ _ hw)))
  · exact sh_tup (n := n + 1) (all_three (s0 (by decide +kernel)) (s0 hm.ok) (sh_lst (h _ _ _ hw)))
theorem ws_sh {CR : PyData → Bool → Prop} : ∀ (n : Nat) {i : Bool} {ws : List PyData} {b r : Bool}, WsR CR n i ws b r → ∀ p ∈ ws, Sh (15 + 3 * n) p
  | 0, _, _, _, _, h => h.elim
  | n + 1, i, ws, b, r, ⟨_, ps, all, _, _⟩ => fun p m => by
    obtain ⟨q, _, hp⟩ := all.mem m
    have s0 : ∀ {m : Nat} {x : Str}, PyData.strOk x = true → Sh m (.str x) := fun h => sh_mono (sh_str h) (Nat.zero_le _)
    rcases hp with ⟨k, x, rfl, hk, hx, _, _⟩ | ⟨w, bw, rw, rfl, hw, _, _⟩ | ⟨x, d, bd, rfl, hx, hd, _⟩ | ⟨t, rfl, _, _, ht, _, _⟩ | ⟨cs, bs, rfl, _, _, hc, _, _⟩
    · exact sh_mono (sh_tup (n := 0) (all_two (sh_str hk.ok) (sh_str hx.ok))) (by omega)
    · exact sh_mono (sh_tup (n := 16 + 3 * n) (all_two (s0 (by decide +kernel)) (sh_mono (sh_lst (ws_sh n hw)) (by omega)))) (by omega)
    · exact sh_mono (sh_tup (n := 17 + 3 * n) (all_three (s0 (by decide +kernel)) (s0 hx.ok) (sh_mono (dd_sh (n := 15 + 3 * n) (fun _ _ _ h => ws_sh n h) hd) (by omega)))) (by omega)
    · exact sh_mono (sh_tup (n := 14) (all_two (s0 (by decide +kernel)) ht.sh)) (by omega)
    · exact sh_mono (sh_tup (n := 14) (all_two (s0 (by decide +kernel)) (sh_lst hc))) (by omega)
/-- every piece begins with its kind -/
theorem ws_head {CR : PyData → Bool → Prop} {n : Nat} {i : Bool} {ws : List PyData} {b r : Bool} (h : WsR CR n i ws b r) : ∀ p ∈ ws, ∃ y l, p = .tuple (.str y :: l) := by
  cases n with
  | zero => exact h.elim
  | succ n =>
    obtain ⟨_, ps, all, _, _⟩ := h
    intro p m
    obtain ⟨q, _, hp⟩ := all.mem m
    rcases hp with ⟨k, x, rfl, _⟩ | ⟨w, bw, rw, rfl, _⟩ | ⟨x, d, bd, rfl, _⟩ | ⟨t, rfl, _⟩ | ⟨cs, bs, rfl, _⟩
    · exact ⟨_, _, rfl⟩
    · exact ⟨_, _, rfl⟩
    · exact ⟨_, _, rfl⟩
    · exact ⟨_, _, rfl⟩
    · exact ⟨_, _, rfl⟩
def spWs (K : Frag) (CR : PyData → Bool → Prop) (n : Nat) (i : Bool) : Sp := fun vs H Q _ => ∃ (v : V) (ws : List PyData) (b r : Bool), vs = [v] ∧ Dp K H v (.list ws) ∧ WsR CR n i ws b r ∧ ∀ H', Same H H' → Q (.bl b) H'
def spPc (K : Frag) (CR : PyData → Bool → Prop) (n : Nat) (i : Bool) : Sp := fun vs H Q _ => ∃ (v : V) (p : PyData) (b r : Bool), vs = [v] ∧ Dp K H v p ∧ PcR CR (WsR CR n false) (WsR CR n true) i p b r ∧ ∀ H', Same H H' → Q (.bl b) H'
/-- what is no dollar piece is told to be none -/
def spDl (K : Frag) (CR : PyData → Bool → Prop) (n : Nat) : Sp := fun vs H Q _ => ∃ (v : V) (p : PyData) (b : Bool), vs = [v] ∧ Dp K H v p ∧ ((∃ r, DlR CR (WsR CR n false) p b r) ∨ (b = false ∧ ((∃ k x, p = .tuple [.str k, .str x] ∧ TxK k) ∨ ∃ ws, p = .tuple [.str "wide", .list ws]))) ∧ ∀ H', Same H H' → Q (.bl b) H'
def spDd (K : Frag) (CR : PyData → Bool → Prop) (n : Nat) : Sp := fun vs H Q _ => ∃ (v : V) (x : Str) (d : PyData) (b r : Bool), vs = [.str x, v] ∧ Dp K H v d ∧ DdR (WsR CR n false) x d b r ∧ Sh 60 d ∧ ∀ H', Same H H' → Q (.bl b) H'
def spSz (K : Frag) : Sp := fun vs H Q _ => ∃ (v : V) (x : Str) (d : PyData), vs = [.str x, v] ∧ Dp K H v d ∧ Sh 60 d ∧ ∀ H', Same H H' → Q (.bl (shownB x d)) H'
end Qb
end PySem
namespace PySem
namespace Qb
open PySem.W PySem.Calls PyProof.Rows L2
/-! # the defs of words and pieces -/
theorem inV_iff (x : Str) (ws : List Str) : inV (.str x) (ws.map V.str) = decide (x ∈ ws) := by
  induction ws with
  | nil => rfl
  | cons w ws ih =>
    have e : inV (.str x) ((w :: ws).map V.str) = ((w == x) || inV (.str x) (ws.map V.str)) := rfl
    rw [e, ih]
    by_cases h : x = w
    · subst h
      simp
    · rw [beq_eq_false_iff_ne.mpr (Ne.symm h), Bool.false_or]
      exact decide_eq_decide.mpr ⟨fun m => .tail _ m, fun m => by
        rcases List.mem_cons.mp m with rfl | m
        · exact (h rfl).elim
        · exact m⟩
theorem sh60 {d : PyData} (h : Sh 60 d) : SeqAt.shaped d = true := sh_ok h
theorem eqv_d0 (a : PyData) (l : List PyData) : PyData.eqv (.tuple (a :: l)) (.tuple []) = false := rfl
theorem eqv_3s (a b c : PyData) : PyData.eqv (.tuple [a, b, c]) sizD = false := by
  show PyData.eqv (.tuple [a, b, c]) (.tuple [.str "size"]) = false
  simp [PyData.eqv, PyData.eqvAll]
theorem dd4_hit {s : Str} (h : s ∈ dd4) : Hit (rOr [rLit "lack", rLit "set", rLit "must", rLit "other"]) s := by
  simp only [dd4, List.mem_cons, List.not_mem_nil, or_false] at h
  rcases h with rfl | rfl | rfl | rfl
  · exact hit_or hit_lit
  · exact hit_or2 (miss_lit (by decide +kernel)) (hit_or hit_lit)
  · exact hit_or2 (miss_lit (by decide +kernel)) (hit_or2 (miss_lit (by decide +kernel)) (hit_or hit_lit))
  · exact hit_or2 (miss_lit (by decide +kernel)) (hit_or2 (miss_lit (by decide +kernel)) (hit_or2 (miss_lit (by decide +kernel)) (hit_or hit_lit)))
theorem dd4_miss {s : Str} (h : ¬ s ∈ dd4) : Miss (rOr [rLit "lack", rLit "set", rLit "must", rLit "other"]) s := by
  simp only [dd4, List.mem_cons, List.not_mem_nil, or_false, not_or] at h
  exact miss_or (miss_lit h.1) (miss_or (miss_lit h.2.1) (miss_or (miss_lit h.2.2.1) (miss_or (miss_lit h.2.2.2) miss_or0)))
section
variable {P : Program} {w : World} {K : Frag} {mg : Str → Option Value} {base : Heap}
abbrev sSz : Stmt := top 28
abbrev nSz : List Str := ["name", "deed"]
theorem scSz : FnScope nSz ["name", "deed"] (defScope sSz) := ⟨rfl, rfl, rfl, by decide +kernel, rfl, by decide +kernel, by decide +kernel⟩
theorem has_Sz {f : Addr} {fd : FuncData}  (F : Fun K "is_shown_as_size" "is_shown_as_size" sSz f fd) (g : mg "is_shown_as_size" = some (.ref f)) (B : Blt mg)  :
    Has P w K mg base 1 "is_shown_as_size" ["name", "deed"] (spSz K) := by
  refine has_of F g (F.binds (ps := ["name", "deed"]) fun _ _ _ _ _ _ us hl => match us, hl with | [_, _], _ => rfl) (F.ok scSz (fun vs H Q E h => ?_) (fun cdv A outer s H vs Q E hr h => ?_))
  · obtain ⟨v, x, d, rfl, _⟩ := h
    rfl
  · have hu : (A.deeper (envOfC "is_shown_as_size" (defScope sSz) s.heap.objs.size f cdv)).units + 65 < cLine := by
      have := hr.un
      omega
    refine ⟨_, (pss_one (ps_ret (pe_and (pe_cmpR op_eq (pv 0) pe_str (nomark _)) (pe_one (pe_cmpR (op_inTD hu) (pv 1) (pe_tup (pa_cons (pe_tup (pa_cons pe_str (pa_cons pe_bl (pa_cons (pe_lst pa_nil) pa_nil)))) (pa_cons (pe_tup (pa_cons pe_str (pa_cons pe_str (pa_cons (pe_lst pa_nil) pa_nil)))) pa_nil))) (by rfl)))))), ?_⟩
    obtain ⟨v, x, d, rfl, hd, sh, k⟩ := h
    unfold shownB at k
    refine ⟨_, rfl, rfl, _, rfl, ?_⟩
    by_cases c : x = "#"
    · subst c
      rw [decide_eq_true rfl, Bool.true_and] at k
      refine if_yes (decide_eq_true rfl) ?_
      refine ⟨_, rfl, (by decide : 0 ≤ sizeLine), fun L1 n1 => ?_⟩
      have q1 := same_upd (o := .lst []) n1
      have d1 : Dp K (L2.upd H L1 (.lst [])) (.ref L1) (.list []) := .lst (SqL.of upd_same) .nil
      generalize L2.upd H L1 (.lst []) = H1 at q1 d1 ⊢
      refine ⟨(by decide : 3 ≤ sizeLine), fun T1 m1 => ?_⟩
      have q2 := same_upd (o := .tup [.str "must", .bl false, .ref L1]) m1
      have d2 : Dp K (L2.upd H1 T1 (.tup [.str "must", .bl false, .ref L1])) (.ref T1) must0 := .tup (SqT.of upd_same) (.cons (.str _) (.cons (.bl _) (.cons (dp_same q2 d1) .nil)))
      generalize L2.upd H1 T1 (.tup [.str "must", .bl false, .ref L1]) = H2 at q2 d2 ⊢
      refine ⟨(by decide : 0 ≤ sizeLine), fun L2' n2 => ?_⟩
      have q3 := same_upd (o := .lst []) n2
      have d3 : Dp K (L2.upd H2 L2' (.lst [])) (.ref L2') (.list []) := .lst (SqL.of upd_same) .nil
      generalize L2.upd H2 L2' (.lst []) = H3 at q3 d3 ⊢
      refine ⟨(by decide : 3 ≤ sizeLine), fun T2 m2 => ?_⟩
      have q4 := same_upd (o := .tup [.str "cut", .str "#", .ref L2']) m2
      have d4 : Dp K (L2.upd H3 T2 (.tup [.str "cut", .str "#", .ref L2'])) (.ref T2) cut0 := .tup (SqT.of upd_same) (.cons (.str _) (.cons (.str _) (.cons (dp_same q4 d3) .nil)))
      generalize L2.upd H3 T2 (.tup [.str "cut", .str "#", .ref L2']) = H4 at q4 d4 ⊢
      refine ⟨(by decide : 2 ≤ sizeLine), fun T3 m3 => ?_⟩
      have q5 := same_upd (o := .tup [.ref T1, .ref T2]) m3
      have a5 := q1.trans (q2.trans (q3.trans (q4.trans q5)))
      refine ⟨d, [must0, cut0], dp_same a5 hd, .tup (SqT.of upd_same) (.cons (dp_same (q3.trans (q4.trans q5)) d2) (.cons (dp_same q5 d4) .nil)), sh60 sh, by decide +kernel, k _ a5⟩
    · rw [decide_eq_false c, Bool.false_and] at k
      exact if_no (decide_eq_false fun z => c (V.str.inj z)) (k _ (Same.refl H))
abbrev sDd : Stmt := top 27
abbrev nDd : List Str := ["name", "deed", "word", "mark"]
theorem scDd : FnScope nDd ["name", "deed"] (defScope sDd) := ⟨rfl, rfl, rfl, by decide +kernel, rfl, by decide +kernel, by decide +kernel⟩
theorem has_Dd {CR : PyData → Bool → Prop} {n L : Nat} (l1 : 1 ≤ L) (l14 : n ≤ 14) {f : Addr} {fd : FuncData}  (F : Fun K "is_deed_on" "is_deed_on" sDd f fd) (g : mg "is_deed_on" = some (.ref f)) (B : Blt mg) (W : Wrt K w mg) (hSz : Has P w K mg base 1 "is_shown_as_size" ["name", "deed"] (spSz K)) (hAp : Has P w K mg base L "are_pieces" ["pieces"] (spWs K CR n false)) :
    Has P w K mg base (L + 1) "is_deed_on" ["name", "deed"] (spDd K CR n) := by
  obtain ⟨fSz, dSz, gSz, kSz, bSz, GSz⟩ := hSz
  obtain ⟨fAp, dAp, gAp, kAp, bAp, GAp⟩ := hAp
  obtain ⟨pC, gC, sC⟩ := W.cuts
  refine has_of F g (F.binds (ps := ["name", "deed"]) fun _ _ _ _ _ _ us hl => match us, hl with | [_, _], _ => rfl) (F.ok scDd (fun vs H Q E h => ?_) (fun cdv A outer s H vs Q E hr h => ?_))
  · obtain ⟨v, x, d, b, r, rfl, _⟩ := h
    rfl
  · refine ⟨_, (pss_cons (ps_if (PW.pt (pw_or (pt_cmpR (op_eqD hr.units) (pv 1) (pe_tup pa_nil) (nomark _)) (pw_or1 (pt_cmpR (op_eqD hr.units) (pv 1) (pe_tup (pa_cons pe_str pa_nil)) (nomark _))))) (pss_one (ps_ret pe_bl)) pss_nil)
        (pss_cons (ps_if (pt_val (pe_call GSz (hr.mono (by omega)) rfl gSz kSz bSz .nil pass0 (pa_cons (pv 0) (pa_cons (pv 1) pa_nil)))) (pss_one (ps_ret pe_bl)) pss_nil)
        (pss_cons (ps_match (pv 1)
        (pcs_cons (is := [2]) scDd.nd (pp_seq rfl (pps_cons (pp_or (pf_cons pp_lit (pf_cons pp_lit (pf_cons pp_lit (pf_cons pp_lit pf_nil))))) (pps_cons pp_any (pps_cons pp_cap pps_nil)))) (.cons ⟨rfl, .inl rfl, .inr rfl⟩ .nil)
          (pss_one (ps_ret (pe_call GAp hr rfl gAp kAp bAp .nil pass0 (pa_cons (pv 2) pa_nil))))
        (pcs_cons (is := [3, 2]) scDd.nd (pp_seq rfl (pps_cons pp_lit (pps_cons pp_cap (pps_cons pp_cap pps_nil)))) (.cons ⟨rfl, .inl rfl, .inr rfl⟩ (.cons ⟨rfl, .inl rfl, .inr rfl⟩ .nil))
          (pss_one (ps_ret (pe_and (pe_cmpR op_in_seq (pv 3) (pe_glob (v := .ref pC) (by rfl) gC rfl) (by rfl)) (pe_one (pe_call GAp hr rfl gAp kAp bAp .nil pass0 (pa_cons (pv 2) pa_nil)))))) pcs_nil)))
        (pss_one (ps_ret pe_bl))))), ?_⟩
    obtain ⟨v, x, d, b, r, rfl, hd, dr, sh, k⟩ := h
    refine ⟨_, rfl, (by decide : 0 ≤ sizeLine), fun T nT => ?_⟩
    have q1 := same_upd (o := .tup []) nT
    refine ⟨d, .tuple [], dp_same q1 hd, .tup (SqT.of upd_same) .nil, sh60 sh, by decide, _, rfl, ?_⟩
    rcases dr with ⟨rfl, rfl, _⟩ | ⟨rfl, rfl, _⟩ | ⟨kk, c, ws, bw, rw', rfl, hk, hw, rfl, _⟩ | ⟨m, ws, bw, rw', rfl, hm, hw, rfl, _⟩
    · exact if_yes (by decide) (if_yes rfl (k _ q1))
    · refine if_no (by decide +kernel) ?_
      generalize L2.upd H T (.tup []) = H1 at q1 ⊢
      refine ⟨_, rfl, (by decide : 1 ≤ sizeLine), fun T2 nT2 => ?_⟩
      have q2 := same_upd (o := .tup [.str "size"]) nT2
      exact ⟨sizD, sizD, dp_same (q1.trans q2) hd, .tup (SqT.of upd_same) (.cons (.str _) .nil), by decide +kernel, by decide +kernel, _, rfl, if_yes (by decide +kernel) (k _ (q1.trans q2))⟩
    all_goals
      refine if_no (eqv_d0 _ _) ?_
      generalize L2.upd H T (.tup []) = H1 at q1 ⊢
      refine ⟨_, rfl, (by decide : 1 ≤ sizeLine), fun T2 nT2 => ?_⟩
      have q2 := same_upd (o := .tup [.str "size"]) nT2
      refine ⟨_, sizD, dp_same (q1.trans q2) hd, .tup (SqT.of upd_same) (.cons (.str _) .nil), sh60 sh, by decide +kernel, _, rfl, if_no (eqv_3s _ _ _) ?_⟩
      generalize L2.upd H1 T2 (.tup [.str "size"]) = H2 at q2 ⊢
      have a2 := q1.trans q2
      refine ⟨_, rfl, _, rfl, v, x, _, rfl, dp_same a2 hd, sh, fun H3 t3 => ⟨_, rfl, ?_⟩⟩
      have a3 := a2.trans t3
      refine if_by (fun e => ?_) (fun e => ?_)
      · rw [e] at k
        exact k _ a3
      rw [e] at k
      obtain ⟨p, x1, x2, rfl, hq, h1, h2⟩ := pc_three (dp_same a3 hd)
      refine ⟨_, rfl, ?_⟩
    · cases h1
      by_cases c4 : kk ∈ dd4
      · rw [decide_eq_true c4] at k
        refine ⟨p, _, rfl, hq, fun ne => absurd rfl ne, fun _ => dd4_hit c4 H3 _ ⟨_, rfl, x2, ws, bw, rw', rfl, h2, hw, fun H4 t4 => ?_⟩⟩
        exact k H4 (a3.trans t4)
      · rw [decide_eq_false c4] at k
        have nc : kk ≠ "cut" := by
          rcases hk with z | rfl
          · exact (c4 z).elim
          · decide +kernel
        exact case_miss hq (.inl (dd4_miss c4)) (case_miss hq (.inl (miss_lit nc)) (k _ a3))
    · cases h1
      refine case_miss hq (.inl (dd4_miss (by decide +kernel))) (case_hit hq hit_lit ?_)
      refine ⟨_, rfl, pC, cutW.map V.str, rfl, .inr (sC H3), rfl, by decide +kernel, _, rfl, ?_⟩
      rw [if_neg (by decide : ¬ false = true), inV_iff]
      refine if_by (fun c => ?_) (fun c => ?_)
      · rw [c] at k
        exact ⟨_, rfl, x2, ws, bw, rw', rfl, h2, hw, fun H4 t4 => k H4 (a3.trans t4)⟩
      · rw [c] at k
        exact k _ a3
abbrev sDl : Stmt := top 26
abbrev nDl : List Str := ["piece", "name", "deed", "tree"]
theorem scDl : FnScope nDl ["piece"] (defScope sDl) := ⟨rfl, rfl, rfl, by decide +kernel, rfl, by decide +kernel, by decide +kernel⟩
theorem has_Dl {CR : PyData → Bool → Prop} {n L : Nat} (l18 : 18 ≤ L) (l14 : n ≤ 14) {f : Addr} {fd : FuncData}  (F : Fun K "is_dollar" "is_dollar" sDl f fd) (g : mg "is_dollar" = some (.ref f)) (B : Blt mg) (hDd : Has P w K mg base L "is_deed_on" ["name", "deed"] (spDd K CR n)) (hIp : Has P w K mg base 1 "is_place" ["text"] (spIp)) (hNn : Has P w K mg base 2 "is_name" ["text"] (spNn)) (hIs : Has P w K mg base 18 "is_sum" ["tree"] (spIsT K 15)) :
    Has P w K mg base (L + 1) "is_dollar" ["piece"] (spDl K CR n) := by
  obtain ⟨fDd, dDd, gDd, kDd, bDd, GDd⟩ := hDd
  obtain ⟨fIp, dIp, gIp, kIp, bIp, GIp⟩ := hIp
  obtain ⟨fNn, dNn, gNn, kNn, bNn, GNn⟩ := hNn
  obtain ⟨fIs, dIs, gIs, kIs, bIs, GIs⟩ := hIs
  refine has_of F g (F.binds (ps := ["piece"]) fun _ _ _ _ _ _ us hl => match us, hl with | [_], _ => rfl) (F.ok scDl (fun vs H Q E h => ?_) (fun cdv A outer s H vs Q E hr h => ?_))
  · obtain ⟨v, p, b, rfl, _⟩ := h
    rfl
  · refine ⟨_, (pss_cons (ps_match (pv 0)
        (pcs_cons (is := [1, 2]) scDl.nd (pp_seq rfl (pps_cons pp_lit (pps_cons pp_cap (pps_cons pp_cap pps_nil)))) (.cons ⟨rfl, .inl rfl, .inr rfl⟩ (.cons ⟨rfl, .inl rfl, .inr rfl⟩ .nil))
          (pss_one (ps_ret (pe_and (pe_or (pe_call GNn (hr.mono (by omega)) rfl gNn kNn bNn .nil pass0 (pa_cons (pv 1) pa_nil)) (pe_one (pe_call GIp (hr.mono (by omega)) rfl gIp kIp bIp .nil pass0 (pa_cons (pv 1) pa_nil)))) (pe_one (pe_call GDd hr rfl gDd kDd bDd .nil pass0 (pa_cons (pv 1) (pa_cons (pv 2) pa_nil)))))))
        (pcs_cons (is := [3]) scDl.nd (pp_seq rfl (pps_cons pp_lit (pps_cons pp_cap pps_nil))) (.cons ⟨rfl, .inl rfl, .inr rfl⟩ .nil)
          (pss_one (ps_ret (pe_call GIs (hr.mono (by omega)) rfl gIs kIs bIs .nil pass0 (pa_cons (pv 3) pa_nil))))
        (pcs_cons (is := []) scDl.nd (pp_seq rfl (pps_cons pp_lit (pps_cons pp_any pps_nil))) .nil
          (pss_one (ps_ret pe_bl)) pcs_nil))))
        (pss_one (ps_ret pe_bl))), ?_⟩
    obtain ⟨v, p, b, rfl, hd, hp, k⟩ := h
    rcases hp with ⟨r, hp⟩ | ⟨rfl, hp⟩
    · rcases hp with ⟨x, d, bd, rfl, hx, dr, rfl⟩ | ⟨t, rfl, tf, th, ts, rfl, _⟩ | ⟨cs, bs, rfl, _, _, _, rfl, _⟩
      · obtain ⟨q, x1, x2, rfl, hq, h1, h2⟩ := pc_three hd
        cases h1
        have sd : Sh 60 d := sh_mono (dd_sh (n := 15 + 3 * n) (fun _ _ _ h => ws_sh n h) dr) (by omega)
        have lx : x.length ≤ big := Nat.le_trans hx.len (by decide)
        have deed : ∀ H1, Same H H1 → isNameB (cs x) = true ∨ (isNameB (cs x) = false ∧ isPlB (cs x) = true) → spDd K CR n ([.str x, x2] ++ []) H1 Q E0 := fun H1 s1 c =>
          ⟨x2, x, d, bd, r, rfl, dp_same s1 h2, dr, sd, fun H2 s2 => by
            have z := k H2 (s1.trans s2)
            rcases c with c | ⟨c1, c2⟩
            · rw [c] at z; exact z
            · rw [c1, c2] at z; exact z⟩
        refine ⟨_, rfl, case_hit hq hit_lit ?_⟩
        refine ⟨_, rfl, x, rfl, lx, fun H1 s1 => ⟨_, rfl, ?_⟩⟩
        cases c1 : isNameB (cs x) with
        | true => exact if_yes rfl ⟨_, rfl, if_yes rfl ⟨_, rfl, _, rfl, deed H1 s1 (.inl c1)⟩⟩
        | false =>
          refine if_no rfl ⟨_, rfl, x, rfl, lx, fun H2 s2 => ⟨_, rfl, ?_⟩⟩
          have a2 := s1.trans s2
          cases c2 : isPlB (cs x) with
          | true => exact if_yes rfl ⟨_, rfl, _, rfl, deed H2 a2 (.inr ⟨c1, c2⟩)⟩
          | false =>
            have z := k H2 a2
            rw [c1, c2] at z
            exact if_no rfl z
      · obtain ⟨q, x1, rfl, hq, h1⟩ := pc_two hd
        refine ⟨_, rfl, case_miss hq (.inl (miss_lit (by decide +kernel))) (case_hit hq hit_lit ?_)⟩
        exact ⟨_, rfl, x1, t, rfl, h1, Nat.le_trans th (by decide), tf.1, fun H1 s1 => k H1 s1⟩
      · obtain ⟨q, x1, rfl, hq, h1⟩ := pc_two hd
        refine ⟨_, rfl, case_miss hq (.inl (miss_lit (by decide +kernel))) (case_miss hq (.inl (miss_lit (by decide +kernel))) ?_)⟩
        exact ⟨q, _, rfl, hq, fun ne => absurd rfl ne, fun _ => hit_lit (c := "run") H _ (k _ (Same.refl H))⟩
    · rcases hp with ⟨kk, x, rfl, hk⟩ | ⟨ws, rfl⟩
      · obtain ⟨q, x1, rfl, hq, h1⟩ := pc_two hd
        exact ⟨_, rfl, len_miss hq (by simp) (case_miss hq (.inl (miss_lit hk.sum)) (case_miss hq (.inl (miss_lit hk.run)) (k _ (Same.refl H))))⟩
      · obtain ⟨q, x1, rfl, hq, h1⟩ := pc_two hd
        exact ⟨_, rfl, len_miss hq (by simp) (case_miss hq (.inl (miss_lit (by decide +kernel))) (case_miss hq (.inl (miss_lit (by decide +kernel))) (k _ (Same.refl H))))⟩
abbrev sWp : Stmt := top 25
abbrev nWp : List Str := ["piece", "text"]
theorem scWp : FnScope nWp ["piece"] (defScope sWp) := ⟨rfl, rfl, rfl, by decide +kernel, rfl, by decide +kernel, by decide +kernel⟩
theorem has_Wp {CR : PyData → Bool → Prop} {n L : Nat} {f : Addr} {fd : FuncData}  (F : Fun K "is_wide_piece" "is_wide_piece" sWp f fd) (g : mg "is_wide_piece" = some (.ref f)) (B : Blt mg) (hDl : Has P w K mg base L "is_dollar" ["piece"] (spDl K CR n)) :
    Has P w K mg base (L + 1) "is_wide_piece" ["piece"] (spPc K CR n true) := by
  obtain ⟨fDl, dDl, gDl, kDl, bDl, GDl⟩ := hDl
  refine has_of F g (F.binds (ps := ["piece"]) fun _ _ _ _ _ _ us hl => match us, hl with | [_], _ => rfl) (F.ok scWp (fun vs H Q E h => ?_) (fun cdv A outer s H vs Q E hr h => ?_))
  · obtain ⟨v, p, b, r, rfl, _⟩ := h
    rfl
  · refine ⟨_, (pss_cons (ps_match (pv 0)
        (pcs_cons (is := [1]) scWp.nd (pp_seq rfl (pps_cons pp_lit (pps_cons pp_cap pps_nil))) (.cons ⟨rfl, .inl rfl, .inr rfl⟩ .nil)
          (pss_one (ps_ret (pe_cmpR op_ne (pv 1) pe_str (nomark _)))) pcs_nil))
        (pss_one (ps_ret (pe_call GDl hr rfl gDl kDl bDl .nil pass0 (pa_cons (pv 0) pa_nil))))), ?_⟩
    obtain ⟨v, p, b, r, rfl, hd, hp, k⟩ := h
    rcases hp with ⟨kk, x, rfl, hk, hx, rfl, _⟩ | ⟨ws, bw, rw', rfl, hw, rfl, _⟩ | hp
    · obtain ⟨q, x1, rfl, hq, h1⟩ := pc_two hd
      cases h1
      by_cases c : kk = "plain"
      · subst c
        have z := k H (Same.refl H)
        have e : txtB true "plain" x = !decide (V.str x = V.str "") := by
          unfold txtB
          rw [if_pos rfl, decide_eq_true rfl, Bool.true_and]
          by_cases c0 : x = ""
          · subst c0; decide +kernel
          · rw [decide_eq_true c0, decide_eq_false (fun z => c0 (V.str.inj z))]; rfl
        rw [e] at z
        exact ⟨_, rfl, case_hit hq hit_lit ⟨_, rfl, rfl, z⟩⟩
      · have z := k
        have e : txtB true kk x = false := by
          unfold txtB
          rw [if_pos rfl, decide_eq_false c, Bool.false_and]
        rw [e] at z
        exact ⟨_, rfl, case_miss hq (.inl (miss_lit c)) ⟨_, rfl, .ref q, _, false, rfl, hd, .inr ⟨rfl, .inl ⟨kk, x, rfl, hk⟩⟩, z⟩⟩
    · obtain ⟨q, x1, rfl, hq, h1⟩ := pc_two hd
      exact ⟨_, rfl, case_miss hq (.inl (miss_lit (by decide +kernel))) ⟨_, rfl, .ref q, _, false, rfl, hd, .inr ⟨rfl, .inr ⟨ws, rfl⟩⟩, k⟩⟩
    · have go : spDl K CR n ([v] ++ []) H Q E0 := ⟨v, p, b, rfl, hd, .inl ⟨r, hp⟩, k⟩
      rcases hp with ⟨x, d, bd, rfl, _⟩ | ⟨t, rfl, _⟩ | ⟨cs, bs, rfl, _⟩
      · obtain ⟨q, x1, x2, rfl, hq, _⟩ := pc_three hd
        exact ⟨_, rfl, len_miss hq (by simp) ⟨_, rfl, go⟩⟩
      · obtain ⟨q, x1, rfl, hq, _⟩ := pc_two hd
        exact ⟨_, rfl, case_miss hq (.inl (miss_lit (by decide +kernel))) ⟨_, rfl, go⟩⟩
      · obtain ⟨q, x1, rfl, hq, _⟩ := pc_two hd
        exact ⟨_, rfl, case_miss hq (.inl (miss_lit (by decide +kernel))) ⟨_, rfl, go⟩⟩
abbrev sPc : Stmt := top 24
abbrev nPc : List Str := ["piece", "text", "sign", "pieces"]
theorem scPc : FnScope nPc ["piece"] (defScope sPc) := ⟨rfl, rfl, rfl, by decide +kernel, rfl, by decide +kernel, by decide +kernel⟩
theorem has_Pc {CR : PyData → Bool → Prop} {n L L' : Nat} (l1 : 1 ≤ L) (ll : L' ≤ L) {f : Addr} {fd : FuncData}  (F : Fun K "is_piece" "is_piece" sPc f fd) (g : mg "is_piece" = some (.ref f)) (B : Blt mg) (hIb : Has P w K mg base 1 "is_bare" ["text"] (spIb)) (hAw : Has P w K mg base L' "are_wide" ["pieces"] (spWs K CR n true)) (hDl : Has P w K mg base L "is_dollar" ["piece"] (spDl K CR n)) :
    Has P w K mg base (L + 1) "is_piece" ["piece"] (spPc K CR n false) := by
  obtain ⟨fIb, dIb, gIb, kIb, bIb, GIb⟩ := hIb
  obtain ⟨fAw, dAw, gAw, kAw, bAw, GAw⟩ := hAw
  obtain ⟨fDl, dDl, gDl, kDl, bDl, GDl⟩ := hDl
  refine has_of F g (F.binds (ps := ["piece"]) fun _ _ _ _ _ _ us hl => match us, hl with | [_], _ => rfl) (F.ok scPc (fun vs H Q E h => ?_) (fun cdv A outer s H vs Q E hr h => ?_))
  · obtain ⟨v, p, b, r, rfl, _⟩ := h
    rfl
  · refine ⟨_, (pss_cons (ps_match (pv 0)
        (pcs_cons (is := [1]) scPc.nd (pp_seq rfl (pps_cons pp_lit (pps_cons pp_cap pps_nil))) (.cons ⟨rfl, .inl rfl, .inr rfl⟩ .nil)
          (pss_one (ps_ret (pe_call GIb (hr.mono (by omega)) rfl gIb kIb bIb .nil pass0 (pa_cons (pv 1) pa_nil))))
        (pcs_cons (is := [1]) scPc.nd (pp_seq rfl (pps_cons pp_lit (pps_cons pp_cap pps_nil))) (.cons ⟨rfl, .inl rfl, .inr rfl⟩ .nil)
          (pss_one (ps_ret (pe_cmpR op_notIn_sign pe_str (pv 1) (by rfl))))
        (pcs_cons (is := [2]) scPc.nd (pp_seq rfl (pps_cons pp_lit (pps_cons pp_cap pps_nil))) (.cons ⟨rfl, .inl rfl, .inr rfl⟩ .nil)
          (pss_one (ps_ret (pe_and (pe_cmpR op_eq (pe_callB call_len (by rfl) B.len PySem.boot_len (pa_cons (pv 2) pa_nil)) pe_int (nomark _)) (pe_one (pe_cmpR op_ne (pv 2) pe_str (nomark _))))))
        (pcs_cons (is := [3]) scPc.nd (pp_seq rfl (pps_cons pp_lit (pps_cons pp_cap pps_nil))) (.cons ⟨rfl, .inl rfl, .inr rfl⟩ .nil)
          (pss_one (ps_ret (pe_call GAw (hr.mono (by omega)) rfl gAw kAw bAw .nil pass0 (pa_cons (pv 3) pa_nil)))) pcs_nil)))))
        (pss_one (ps_ret (pe_call GDl hr rfl gDl kDl bDl .nil pass0 (pa_cons (pv 0) pa_nil))))), ?_⟩
    obtain ⟨v, p, b, r, rfl, hd, hp, k⟩ := h
    rcases hp with ⟨kk, x, rfl, hk, hx, rfl, _⟩ | ⟨ws, bw, rw', rfl, hw, rfl, _⟩ | hp
    · have lx : x.length ≤ big := Nat.le_trans hx.len (by decide)
      obtain ⟨q, x1, rfl, hq, h1⟩ := pc_two hd
      cases h1
      have e0 : txtB false kk x = (if kk = "bare" then isBareB (cs x) else if kk = "held" then !decide (39 ∈ cs x) else if kk = "mark" then decide (x.length = 1) && decide (x ≠ "
") else false) := by
        unfold txtB
        rw [if_neg (by decide)]
      rw [e0] at k
      by_cases c1 : kk = "bare"
      · subst c1
        rw [if_pos rfl] at k
        exact ⟨_, rfl, case_hit hq hit_lit ⟨_, rfl, x, rfl, lx, fun H1 s1 => k H1 s1⟩⟩
      rw [if_neg c1] at k
      by_cases c2 : kk = "held"
      · subst c2
        rw [if_pos rfl] at k
        exact ⟨_, rfl, case_miss hq (.inl (miss_lit c1)) (case_hit hq hit_lit ⟨_, rfl, 39, x, rfl, rfl, k H (Same.refl H)⟩)⟩
      rw [if_neg c2] at k
      by_cases c3 : kk = "mark"
      · subst c3
        rw [if_pos rfl] at k
        have z := k H (Same.refl H)
        refine ⟨_, rfl, case_miss hq (.inl (miss_lit c1)) (case_miss hq (.inl (miss_lit c2)) (case_hit hq hit_lit ?_))⟩
        refine ⟨_, rfl, .str x, x.length, rfl, ⟨small_line (Nat.le_trans hx.len (by decide)), rfl⟩, rfl, _, rfl, ?_⟩
        by_cases l1 : x.length = 1
        · rw [decide_eq_true l1, Bool.true_and] at z
          refine if_yes (by rw [l1]; decide) ⟨_, rfl, rfl, ?_⟩
          by_cases c0 : x = "
"
          · subst c0
            rw [decide_eq_true rfl]
            rw [decide_eq_false (fun h => h rfl)] at z
            exact z
          · rw [decide_eq_false (fun z => c0 (V.str.inj z))]
            rw [decide_eq_true c0] at z
            exact z
        · rw [decide_eq_false l1, Bool.false_and] at z
          refine if_no (decide_eq_false fun w => l1 ?_) z
          injection w with w
          omega
      rw [if_neg c3] at k
      exact ⟨_, rfl, case_miss hq (.inl (miss_lit c1)) (case_miss hq (.inl (miss_lit c2)) (case_miss hq (.inl (miss_lit c3)) (case_miss hq (.inl (miss_lit hk.wide)) ⟨_, rfl, .ref q, _, false, rfl, hd, .inr ⟨rfl, .inl ⟨kk, x, rfl, hk⟩⟩, k⟩)))⟩
    · obtain ⟨q, x1, rfl, hq, h1⟩ := pc_two hd
      exact ⟨_, rfl, case_miss hq (.inl (miss_lit (by decide +kernel))) (case_miss hq (.inl (miss_lit (by decide +kernel))) (case_miss hq (.inl (miss_lit (by decide +kernel))) (case_hit hq hit_lit ⟨_, rfl, x1, ws, _, rw', rfl, h1, hw, k⟩)))⟩
    · have go : spDl K CR n ([v] ++ []) H Q E0 := ⟨v, p, b, rfl, hd, .inl ⟨r, hp⟩, k⟩
      rcases hp with ⟨x, d, bd, rfl, _⟩ | ⟨t, rfl, _⟩ | ⟨cs, bs, rfl, _⟩
      · obtain ⟨q, x1, x2, rfl, hq, _⟩ := pc_three hd
        exact ⟨_, rfl, len_miss hq (by simp) (len_miss hq (by simp) (len_miss hq (by simp) (len_miss hq (by simp) ⟨_, rfl, go⟩)))⟩
      · obtain ⟨q, x1, rfl, hq, _⟩ := pc_two hd
        exact ⟨_, rfl, case_miss hq (.inl (miss_lit (by decide +kernel))) (case_miss hq (.inl (miss_lit (by decide +kernel))) (case_miss hq (.inl (miss_lit (by decide +kernel))) (case_miss hq (.inl (miss_lit (by decide +kernel))) ⟨_, rfl, go⟩)))⟩
      · obtain ⟨q, x1, rfl, hq, _⟩ := pc_two hd
        exact ⟨_, rfl, case_miss hq (.inl (miss_lit (by decide +kernel))) (case_miss hq (.inl (miss_lit (by decide +kernel))) (case_miss hq (.inl (miss_lit (by decide +kernel))) (case_miss hq (.inl (miss_lit (by decide +kernel))) ⟨_, rfl, go⟩)))⟩
abbrev sAp : Stmt := top 21
abbrev nAp : List Str := ["pieces", "piece"]
theorem scAp : FnScope nAp ["pieces"] (defScope sAp) := ⟨rfl, rfl, rfl, by decide +kernel, rfl, by decide +kernel, by decide +kernel⟩
theorem has_Ap {CR : PyData → Bool → Prop} {n L : Nat} (l1 : 1 ≤ L) (l14 : n ≤ 14) {f : Addr} {fd : FuncData}  (F : Fun K "are_pieces" "are_pieces" sAp f fd) (g : mg "are_pieces" = some (.ref f)) (B : Blt mg) (hHn : Has P w K mg base 1 "has_neighbours" ["pieces", "kind"] (spNb K)) (hSb : Has P w K mg base L "is_piece" ["piece"] (spPc K CR n false)) :
    Has P w K mg base (L + 1) "are_pieces" ["pieces"] (spWs K CR (n + 1) false) := by
  obtain ⟨fHn, dHn, gHn, kHn, bHn, GHn⟩ := hHn
  obtain ⟨fPc, dPc, gPc, kPc, bPc, GPc⟩ := hSb
  refine has_of F g (F.binds (ps := ["pieces"]) fun _ _ _ _ _ _ us hl => match us, hl with | [_], _ => rfl) (F.ok scAp (fun vs H Q E h => ?_) (fun cdv A outer s H vs Q E hr h => ?_))
  · obtain ⟨v, ws, b, r, rfl, _⟩ := h
    rfl
  · refine ⟨_, (pss_one (ps_ret (pe_and (pe_callB (cr_all rfl) (by rfl) B.all (by decide +kernel) (pa_cons (pe_lc (own := [("piece", 1)]) (g := gName 1) (tt := tYes) rfl scAp.nd (pi_list (pv 0)) (blkOk_by (N := nAp) (sc := defScope sAp) (by decide +kernel)) (fun _ _ _ _ _ => pg_name (i := 1) scAp.nd rfl (.inl rfl)) (fun _ _ _ _ _ => pts_nil) (fun _ _ _ _ _ => (pe_call GPc hr rfl gPc kPc bPc .nil pass0 (pa_cons (pv 1) pa_nil)))) pa_nil)) (pe_one (pe_not (pe_call GHn (hr.mono (by omega)) rfl gHn kHn bHn .nil pass0 (pa_cons (pv 0) (pa_cons pe_str pa_nil)))))))), ?_⟩
    obtain ⟨v, ws, b, r, rfl, hd, hw, k⟩ := h
    have heads := ws_head hw
    obtain ⟨hl, ps, all, rfl, _⟩ := hw
    obtain ⟨a, xs, rfl, hq, dall⟩ := dp_lst hd
    have lx := dpLen dall
    have lp := all.len
    refine ⟨_, rfl, a, rfl, ⟨_, hq⟩, fun D hD => lc_all (bs := ps.map (·.1)) hq hD (by rw [List.length_map, lx, lp]) (by rw [lx]; omega) (fun i x b' H' Q' hx hb s1 q => ?_) (fun H1 s1 q1 => ?_)⟩
    · obtain ⟨d, hdi, dp⟩ := dpAt' dall hx
      obtain ⟨pq, hpq, hr'⟩ := all.at hdi
      rw [List.getElem?_map, hpq] at hb
      obtain rfl := Option.some.inj hb
      exact ⟨rfl, _, rfl, x, d, pq.1, pq.2, rfl, dp_same s1 dp, hr', q⟩
    · refine ⟨D, _, rfl, q1, _, rfl, ?_⟩
      have e : (ps.map (·.1)).all id = ps.all (·.1) := by rw [List.all_map]; rfl
      rw [e]
      cases c : ps.all (·.1) with
      | false =>
        rw [c] at k
        exact if_no rfl (k _ s1)
      | true =>
        rw [c] at k
        exact if_yes rfl ⟨_, rfl, .ref a, "bare", ws, rfl, dp_same s1 hd, by omega, heads, fun H2 s2 => ⟨_, rfl, k H2 (s1.trans s2)⟩⟩
abbrev sAw : Stmt := top 22
abbrev nAw : List Str := ["pieces", "piece"]
theorem scAw : FnScope nAw ["pieces"] (defScope sAw) := ⟨rfl, rfl, rfl, by decide +kernel, rfl, by decide +kernel, by decide +kernel⟩
theorem has_Aw {CR : PyData → Bool → Prop} {n L : Nat} (l1 : 1 ≤ L) (l14 : n ≤ 14) {f : Addr} {fd : FuncData}  (F : Fun K "are_wide" "are_wide" sAw f fd) (g : mg "are_wide" = some (.ref f)) (B : Blt mg) (hHn : Has P w K mg base 1 "has_neighbours" ["pieces", "kind"] (spNb K)) (hSb : Has P w K mg base L "is_wide_piece" ["piece"] (spPc K CR n true)) :
    Has P w K mg base (L + 1) "are_wide" ["pieces"] (spWs K CR (n + 1) true) := by
  obtain ⟨fHn, dHn, gHn, kHn, bHn, GHn⟩ := hHn
  obtain ⟨fWp, dWp, gWp, kWp, bWp, GWp⟩ := hSb
  refine has_of F g (F.binds (ps := ["pieces"]) fun _ _ _ _ _ _ us hl => match us, hl with | [_], _ => rfl) (F.ok scAw (fun vs H Q E h => ?_) (fun cdv A outer s H vs Q E hr h => ?_))
  · obtain ⟨v, ws, b, r, rfl, _⟩ := h
    rfl
  · refine ⟨_, (pss_one (ps_ret (pe_and (pe_callB (cr_all rfl) (by rfl) B.all (by decide +kernel) (pa_cons (pe_lc (own := [("piece", 1)]) (g := gName 1) (tt := tYes) rfl scAw.nd (pi_list (pv 0)) (blkOk_by (N := nAw) (sc := defScope sAw) (by decide +kernel)) (fun _ _ _ _ _ => pg_name (i := 1) scAw.nd rfl (.inl rfl)) (fun _ _ _ _ _ => pts_nil) (fun _ _ _ _ _ => (pe_call GWp hr rfl gWp kWp bWp .nil pass0 (pa_cons (pv 1) pa_nil)))) pa_nil)) (pe_one (pe_not (pe_call GHn (hr.mono (by omega)) rfl gHn kHn bHn .nil pass0 (pa_cons (pv 0) (pa_cons pe_str pa_nil)))))))), ?_⟩
    obtain ⟨v, ws, b, r, rfl, hd, hw, k⟩ := h
    have heads := ws_head hw
    obtain ⟨hl, ps, all, rfl, _⟩ := hw
    obtain ⟨a, xs, rfl, hq, dall⟩ := dp_lst hd
    have lx := dpLen dall
    have lp := all.len
    refine ⟨_, rfl, a, rfl, ⟨_, hq⟩, fun D hD => lc_all (bs := ps.map (·.1)) hq hD (by rw [List.length_map, lx, lp]) (by rw [lx]; omega) (fun i x b' H' Q' hx hb s1 q => ?_) (fun H1 s1 q1 => ?_)⟩
    · obtain ⟨d, hdi, dp⟩ := dpAt' dall hx
      obtain ⟨pq, hpq, hr'⟩ := all.at hdi
      rw [List.getElem?_map, hpq] at hb
      obtain rfl := Option.some.inj hb
      exact ⟨rfl, _, rfl, x, d, pq.1, pq.2, rfl, dp_same s1 dp, hr', q⟩
    · refine ⟨D, _, rfl, q1, _, rfl, ?_⟩
      have e : (ps.map (·.1)).all id = ps.all (·.1) := by rw [List.all_map]; rfl
      rw [e]
      cases c : ps.all (·.1) with
      | false =>
        rw [c] at k
        exact if_no rfl (k _ s1)
      | true =>
        rw [c] at k
        exact if_yes rfl ⟨_, rfl, .ref a, "plain", ws, rfl, dp_same s1 hd, by omega, heads, fun H2 s2 => ⟨_, rfl, k H2 (s1.trans s2)⟩⟩
/-- words and what stands in double quotes, by depth -/
theorem ok_words {CR : PyData → Bool → Prop} {fAp fAw fPc fWp fDl fDd : Addr} {dAp dAw dPc dWp dDl dDd : FuncData} (FAp : Fun K "are_pieces" "are_pieces" sAp fAp dAp) (gAp : mg "are_pieces" = some (.ref fAp)) (FAw : Fun K "are_wide" "are_wide" sAw fAw dAw) (gAw : mg "are_wide" = some (.ref fAw)) (FPc : Fun K "is_piece" "is_piece" sPc fPc dPc) (gPc : mg "is_piece" = some (.ref fPc)) (FWp : Fun K "is_wide_piece" "is_wide_piece" sWp fWp dWp) (gWp : mg "is_wide_piece" = some (.ref fWp))
    (FDl : Fun K "is_dollar" "is_dollar" sDl fDl dDl) (gDl : mg "is_dollar" = some (.ref fDl)) (FDd : Fun K "is_deed_on" "is_deed_on" sDd fDd dDd) (gDd : mg "is_deed_on" = some (.ref fDd)) (B : Blt mg) (W : Wrt K w mg)
    (hSz : Has P w K mg base 1 "is_shown_as_size" ["name", "deed"] (spSz K)) (hHn : Has P w K mg base 1 "has_neighbours" ["pieces", "kind"] (spNb K)) (hIb : Has P w K mg base 1 "is_bare" ["text"] (spIb)) (hIp : Has P w K mg base 1 "is_place" ["text"] (spIp)) (hNn : Has P w K mg base 2 "is_name" ["text"] (spNn)) (hIs : Has P w K mg base 18 "is_sum" ["tree"] (spIsT K 15)) :
    ∀ n, n ≤ 14 → Has P w K mg base (20 + 4 * n) "are_pieces" ["pieces"] (spWs K CR n false) ∧ Has P w K mg base (20 + 4 * n) "are_wide" ["pieces"] (spWs K CR n true)
  | 0, _ => by
    constructor
    · exact has_of FAp gAp (FAp.binds (ps := ["pieces"]) fun _ _ _ _ _ _ us hl => match us, hl with | [_], _ => rfl) (FAp.ok scAp (fun vs H Q E h => by obtain ⟨_, _, _, _, _, _, h, _⟩ := h; exact h.elim) (fun cdv A outer s H vs Q E hr h => by obtain ⟨_, _, _, _, _, _, h, _⟩ := h; exact h.elim))
    · exact has_of FAw gAw (FAw.binds (ps := ["pieces"]) fun _ _ _ _ _ _ us hl => match us, hl with | [_], _ => rfl) (FAw.ok scAw (fun vs H Q E h => by obtain ⟨_, _, _, _, _, _, h, _⟩ := h; exact h.elim) (fun cdv A outer s H vs Q E hr h => by obtain ⟨_, _, _, _, _, _, h, _⟩ := h; exact h.elim))
  | n + 1, l => by
    obtain ⟨hAp, hAw⟩ := ok_words (CR := CR) FAp gAp FAw gAw FPc gPc FWp gWp FDl gDl FDd gDd B W hSz hHn hIb hIp hNn hIs n (by omega)
    have hDd := has_Dd (L := 20 + 4 * n) (by omega) (by omega) FDd gDd B W hSz hAp
    have hDl := has_Dl (L := 20 + 4 * n + 1) (by omega) (by omega) FDl gDl B hDd hIp hNn hIs
    have hWp := has_Wp FWp gWp B hDl
    have hPc := has_Pc (L' := 20 + 4 * n) (by omega) (by omega) FPc gPc B hIb hAw hDl
    exact ⟨has_Ap (L := 20 + 4 * n + 3) (by omega) (by omega) FAp gAp B hHn hPc, has_Aw (L := 20 + 4 * n + 3) (by omega) (by omega) FAw gAw B hHn hWp⟩
end
end Qb
end PySem
namespace PySem
namespace Qb
open PySem.W PySem.Calls PyProof.Rows L2
/-! # the commands that stand in the words -/
def aW : List PyData := [.tuple [.str "bare", .str "a"]]
def cmdW (b : Bool) : List PyData := if b = true then [.list aW] else []
def cmdD (b : Bool) : PyData := .tuple [.str "do", .list [], .list (cmdW b), .list []]
def CRo (c : PyData) (b : Bool) : Prop := c = cmdD b
def beginsB (l : List Nat) : Bool := decide (0 < nameLen l) && (l[nameLen l]? == some 61)
theorem cut_one (x : Str) (n : Nat) : cutS x (some (n : Int)) (some ((n : Int) + 1)) = ("=" : Str) ↔ (cs x)[n]? = some 61 := by
  have h1 : HT.sIx x.length 0 (some (n : Int)) = min n x.length := HT.sIx_nat ..
  have h2 : HT.sIx x.length x.length (some ((n : Int) + 1)) = min (n + 1) x.length := HT.sIx_nat x.length x.length (n + 1)
  have hl := len_cs x
  have hq : ("=" : Str) = ⟨#[61]⟩ := by decide +kernel
  unfold cutS
  rw [h1, h2, hq]
  have key : ((cs x).drop (min n x.length)).take (min (n + 1) x.length - min n x.length) = [61] ↔ (cs x)[n]? = some 61 := by
    by_cases hn : n < (cs x).length
    · have e1 : min n x.length = n := by omega
      have e2 : min (n + 1) x.length - n = 1 := by omega
      rw [e1, e2, List.drop_eq_getElem_cons hn, List.getElem?_eq_getElem hn]
      simp
    · have e1 : min n x.length = x.length := by omega
      rw [e1, List.drop_eq_nil_of_le (by omega), List.getElem?_eq_none (by omega)]
      simp
  rw [← key]
  constructor
  · intro z
    have y := congrArg (fun s : Str => s.cps.toList) z
    simpa using y
  · intro z
    rw [z]
theorem txK_bare : TxK "bare" := ⟨by decide +kernel, by decide +kernel, by decide +kernel, by decide +kernel, by decide +kernel, by decide +kernel⟩
theorem tx_a : Tx "a" := ⟨by decide +kernel, by decide +kernel⟩
theorem aW_rel {CR : PyData → Bool → Prop} : WsR CR 1 false aW true true := by
  refine ⟨by decide, [(true, true)], .cons (.inl ⟨"bare", "a", rfl, txK_bare, tx_a, by decide +kernel, rfl⟩) .nil, by decide +kernel, rfl⟩
theorem sh_cmd (b : Bool) : Sh 5 (cmdD b) := by
  have s0 : ∀ {n : Nat} {x : Str}, PyData.strOk x = true → Sh n (.str x) := fun h => sh_mono (sh_str h) (Nat.zero_le _)
  have e0 : ∀ {n : Nat}, Sh (n + 1) (.list []) := fun {n} => sh_mono (sh_lst (n := 0) (fun d m => by cases m)) (by omega)
  refine sh_tup fun d m => ?_
  rcases List.mem_cons.mp m with rfl | m
  · exact s0 (by decide +kernel)
  rcases List.mem_cons.mp m with rfl | m
  · exact e0
  rcases List.mem_cons.mp m with rfl | m
  · cases b
    · exact e0
    · refine sh_lst (n := 3) fun d m => ?_
      rw [List.mem_singleton.mp m]
      refine sh_lst (n := 2) fun d m => ?_
      rw [List.mem_singleton.mp m]
      exact sh_tup (n := 1) (all_two (s0 (by decide +kernel)) (s0 (by decide +kernel)))
  · rw [List.mem_singleton.mp m]
    exact e0
/-- v == [] -/
theorem rd_eqnil {K : Frag} {σ : L2.St} {H : Hp} {Q : VK} {i : Nat} {v : V} {ds : List PyData} (hv : σ[i]? = some (some v)) (hd : Dp K H v (.list ds)) (hs : SeqAt.shaped (.list ds) = true) (k : ∀ H1, Same H H1 → Q (.bl ds.isEmpty) H1) :
    tOp (rEqD K) (tVar i) (tLst tNil) σ H Q := by
  refine ⟨v, hv, (by decide : 0 ≤ sizeLine), fun p np => ?_⟩
  have s1 := same_upd (o := .lst []) np
  refine ⟨.list ds, .list [], dp_same s1 hd, .lst (SqL.of upd_same) .nil, hs, by decide, ?_⟩
  rw [eqv_nil]
  exact k _ s1
theorem rd_nenil {K : Frag} {σ : L2.St} {H : Hp} {Q : VK} {i : Nat} {v : V} {ds : List PyData} (hv : σ[i]? = some (some v)) (hd : Dp K H v (.list ds)) (hs : SeqAt.shaped (.list ds) = true) (k : ∀ H1, Same H H1 → Q (.bl (!ds.isEmpty)) H1) :
    tOp (rNeD K) (tVar i) (tLst tNil) σ H Q := by
  refine ⟨v, hv, (by decide : 0 ≤ sizeLine), fun p np => ?_⟩
  have s1 := same_upd (o := .lst []) np
  refine ⟨.list ds, .list [], dp_same s1 hd, .lst (SqL.of upd_same) .nil, hs, by decide, ?_⟩
  rw [eqv_nil]
  exact k _ s1
theorem aW_sh : SeqAt.shaped (.list aW) = true := by decide +kernel
theorem cw_sh (b : Bool) : SeqAt.shaped (.list (cmdW b)) = true := by cases b <;> decide +kernel
theorem nil_sh : SeqAt.shaped (.list []) = true := by decide +kernel
theorem dec_str (x y : Str) : decide (V.str x = V.str y) = decide (x = y) := by
  by_cases h : x = y
  · rw [decide_eq_true h, decide_eq_true (congrArg V.str h)]
  · rw [decide_eq_false h, decide_eq_false fun z => h (V.str.inj z)]
abbrev spBs : Sp := spTxt fun x => .bl (beginsB (cs x))
/-- the word a -/
def spKw (K : Frag) : Sp := fun vs H Q _ => ∃ v, vs = [v] ∧ Dp K H v (.list aW) ∧ ∀ H', Same H H' → Q (.bl false) H'
def spFi (K : Frag) : Sp := fun vs H Q _ => ∃ v u, vs = [v, u] ∧ Dp K H v (.list aW) ∧ Dp K H u (.list []) ∧ ∀ H', Same H H' → Q (.bl true) H'
def spFw (K : Frag) (CR : PyData → Bool → Prop) (n : Nat) : Sp := fun vs H Q _ => ∃ (v : V) (ws : List PyData) (b r : Bool), vs = [v] ∧ Dp K H v (.list ws) ∧ SeqAt.shaped (.list ws) = true ∧ (ws = [] ∨ WsR CR n false ws b r) ∧ ∀ H', Same H H' → Q (.bl (!ws.isEmpty && b)) H'
/-- no words, or one a -/
def spAws (K : Frag) : Sp := fun vs H Q _ => ∃ (v : V) (b : Bool), vs = [v] ∧ Dp K H v (.list (cmdW b)) ∧ ∀ H', Same H H' → Q (.bl true) H'
def spNo (K : Frag) : Sp := fun vs H Q _ => ∃ v, vs = [v] ∧ Dp K H v (.list []) ∧ ∀ H', Same H H' → Q (.bl true) H'
def spDo (K : Frag) : Sp := fun vs H Q _ => ∃ v u t b, vs = [v, u, t] ∧ Dp K H v (.list []) ∧ Dp K H u (.list (cmdW b)) ∧ Dp K H t (.list []) ∧ ∀ H', Same H H' → Q (.bl b) H'
def spCm (K : Frag) : Sp := fun vs H Q _ => ∃ v b, vs = [v] ∧ Dp K H v (cmdD b) ∧ ∀ H', Same H H' → Q (.bl b) H'
section
variable {P : Program} {w : World} {K : Frag} {mg : Str → Option Value} {base : Heap}
abbrev sBs : Stmt := top 14
abbrev nBs : List Str := ["text", "length"]
theorem scBs : FnScope nBs ["text"] (defScope sBs) := ⟨rfl, rfl, rfl, by decide +kernel, rfl, by decide +kernel, by decide +kernel⟩
theorem has_Bs {f : Addr} {fd : FuncData}  (F : Fun K "begins_set" "begins_set" sBs f fd) (g : mg "begins_set" = some (.ref f)) (B : Blt mg) (hNl : Has P w K mg base 1 "name_length" ["text"] (spNl)) :
    Has P w K mg base 2 "begins_set" ["text"] (spBs) := by
  obtain ⟨fNl, dNl, gNl, kNl, bNl, GNl⟩ := hNl
  refine has_of F g (F.binds (ps := ["text"]) fun _ _ _ _ _ _ us hl => match us, hl with | [_], _ => rfl) (F.ok scBs (fun vs H Q E h => ?_) (fun cdv A outer s H vs Q E hr h => ?_))
  · obtain ⟨x, rfl, _⟩ := h
    rfl
  · refine ⟨_, (pss_cons (ps_set (i := 1) scBs.nd rfl (.inl rfl) (pe_call GNl hr rfl gNl kNl bNl .nil pass0 (pa_cons (pv 0) pa_nil)))
        (pss_one (ps_ret (pe_and (pe_cmpR op_gt (pv 1) pe_int (nomark _)) (pe_one (pe_cmpR op_eq (pe_slice sl_str (pv 0) (po_some (pv 1)) (po_some (pe_op op_add (pv 1) pe_int))) pe_str (nomark _))))))), ?_⟩
    obtain ⟨x, rfl, hx, k⟩ := h
    have hz := big_line hx
    refine ⟨_, rfl, x, rfl, hx, fun H1 s1 => ⟨_, rfl, _, _, rfl, rfl, _, rfl, ?_⟩⟩
    have done : ∀ b, beginsB (cs x) = b → Q (.bl b) H1 := fun b e => by
      have z : Q (.bl (beginsB (cs x))) H1 := k H1 s1
      rw [e] at z
      exact z
    by_cases h0 : 0 < nameLen (cs x)
    · have h0' : (0 : Int) < (nameLen (cs x) : Int) := by omega
      refine if_yes (by simpa using h0) ⟨_, rfl, _, rfl, _, rfl, _, rfl, _, _, rfl, rfl, _, rfl, x, rfl, hz, rfl, ?_⟩
      refine done _ ?_
      unfold beginsB
      rw [decide_eq_true h0, Bool.true_and]
      have cut := cut_one x (nameLen (cs x))
      show ((cs x)[nameLen (cs x)]? == some 61) = decide (V.str (cutS x (some (nameLen (cs x) : Int)) (some ((nameLen (cs x) : Int) + 1))) = V.str "=")
      by_cases q : (cs x)[nameLen (cs x)]? = some 61
      · rw [decide_eq_true (congrArg V.str (cut.mpr q)), q]
        rfl
      · rw [decide_eq_false (fun z => q (cut.mp (V.str.inj z))), beq_eq_false_iff_ne.mpr q]
    · refine if_no (by simpa using h0) (done false ?_)
      unfold beginsB
      rw [decide_eq_false h0]
      rfl
abbrev sKw : Stmt := top 41
abbrev nKw : List Str := ["word"]
theorem scKw : FnScope nKw ["word"] (defScope sKw) := ⟨rfl, rfl, rfl, by decide +kernel, rfl, by decide +kernel, by decide +kernel⟩
theorem has_Kw {f : Addr} {fd : FuncData}  (F : Fun K "is_key_word" "is_key_word" sKw f fd) (g : mg "is_key_word" = some (.ref f)) (B : Blt mg) (W : Wrt K w mg) :
    Has P w K mg base 1 "is_key_word" ["word"] (spKw K) := by
  obtain ⟨pK, gK, sK⟩ := W.kws
  refine has_of F g (F.binds (ps := ["word"]) fun _ _ _ _ _ _ us hl => match us, hl with | [_], _ => rfl) (F.ok scKw (fun vs H Q E h => ?_) (fun cdv A outer s H vs Q E hr h => ?_))
  · obtain ⟨v, rfl, _⟩ := h
    rfl
  · refine ⟨_, (pss_one (ps_ret (pe_and (pe_cmpR op_eq (pe_callB call_len_seq (by rfl) B.len PySem.boot_len (pa_cons (pv 0) pa_nil)) pe_int (nomark _)) (pe_and (pe_cmpR op_eq (pe_ix ix_tup (pe_ix ix_list (pv 0) pe_int (fun _ _ => rfl)) pe_int (fun _ _ => rfl)) pe_str (nomark _)) (pe_one (pe_cmpR op_in_seq (pe_ix ix_tup (pe_ix ix_list (pv 0) pe_int (fun _ _ => rfl)) pe_int (fun _ _ => rfl)) (pe_glob (v := .ref pK) (by rfl) gK rfl) (by rfl))))))), ?_⟩
    obtain ⟨v, rfl, hd, k⟩ := h
    obtain ⟨a, xs, rfl, hq, all⟩ := dp_lst hd
    cases all with
    | @cons x _ xs _ h1 t1 =>
      cases t1
      obtain ⟨b, rfl, q1⟩ := dp_two h1
      refine ⟨_, rfl, a, [.ref b], rfl, .inl hq, rfl, _, rfl, if_yes rfl ?_⟩
      refine ⟨_, rfl, a, _, 0, _, rfl, rfl, hq, atI_nat (j := 0) rfl, b, _, 0, _, rfl, rfl, q1, atI_nat (j := 0) rfl, rfl, _, rfl, if_yes (by decide +kernel) ?_⟩
      refine ⟨_, rfl, a, _, 0, _, rfl, rfl, hq, atI_nat (j := 0) rfl, b, _, 1, _, rfl, rfl, q1, atI_nat (j := 1) rfl, pK, keyW.map V.str, rfl, .inr (sK _), rfl, by decide +kernel, ?_⟩
      rw [if_neg (by decide : ¬ false = true), show inV (.str "a") (keyW.map V.str) = false from by decide +kernel]
      exact k H (Same.refl H)
abbrev sFi : Stmt := top 40
abbrev nFi : List Str := ["word", "sets"]
theorem scFi : FnScope nFi ["word", "sets"] (defScope sFi) := ⟨rfl, rfl, rfl, by decide +kernel, rfl, by decide +kernel, by decide +kernel⟩
theorem has_Fi {f : Addr} {fd : FuncData}  (F : Fun K "is_first_word" "is_first_word" sFi f fd) (g : mg "is_first_word" = some (.ref f)) (B : Blt mg) (hKw : Has P w K mg base 1 "is_key_word" ["word"] (spKw K)) (hBs : Has P w K mg base 2 "begins_set" ["text"] (spBs)) :
    Has P w K mg base 3 "is_first_word" ["word", "sets"] (spFi K) := by
  obtain ⟨fKw, dKw, gKw, kKw, bKw, GKw⟩ := hKw
  obtain ⟨fBs, dBs, gBs, kBs, bBs, GBs⟩ := hBs
  refine has_of F g (F.binds (ps := ["word", "sets"]) fun _ _ _ _ _ _ us hl => match us, hl with | [_, _], _ => rfl) (F.ok scFi (fun vs H Q E h => ?_) (fun cdv A outer s H vs Q E hr h => ?_))
  · obtain ⟨v, u, rfl, _⟩ := h
    rfl
  · refine ⟨_, (pss_cons (ps_if (PW.pt (pw_and (pt_cmpR (op_eqD hr.units) (pv 1) (pe_lst pa_nil) (nomark _)) (pw_and1 (pt_val (pe_call GKw (hr.mono (by decide)) rfl gKw kKw bKw .nil pass0 (pa_cons (pv 0) pa_nil)))))) (pss_one (ps_ret pe_bl)) pss_nil)
        (pss_one (ps_ret (pe_or (pe_cmpR op_ne (pe_ix ix_tup (pe_ix ix_list (pv 0) pe_int (fun _ _ => rfl)) pe_int (fun _ _ => rfl)) pe_str (nomark _)) (pe_one (pe_not (pe_call GBs (hr.mono (by decide)) rfl gBs kBs bBs .nil pass0 (pa_cons (pe_ix ix_tup (pe_ix ix_list (pv 0) pe_int (fun _ _ => rfl)) pe_int (fun _ _ => rfl)) pa_nil)))))))), ?_⟩
    obtain ⟨v, u, rfl, hd, hu, k⟩ := h
    refine rd_eqnil rfl hu nil_sh fun H1 s1 => ⟨_, rfl, if_yes rfl ⟨_, rfl, v, rfl, dp_same s1 hd, fun H2 s2 => ⟨_, rfl, if_no rfl ?_⟩⟩⟩
    have a2 := s1.trans s2
    obtain ⟨a, xs, rfl, hq, all⟩ := dp_lst (dp_same a2 hd)
    cases all with
    | @cons x _ xs _ h1 t1 =>
      cases t1
      obtain ⟨b, rfl, q1⟩ := dp_two h1
      refine ⟨_, rfl, a, _, 0, _, rfl, rfl, hq, atI_nat (j := 0) rfl, b, _, 0, _, rfl, rfl, q1, atI_nat (j := 0) rfl, rfl, _, rfl, if_no (by decide +kernel) ?_⟩
      refine ⟨_, rfl, a, _, 0, _, rfl, rfl, hq, atI_nat (j := 0) rfl, b, _, 1, _, rfl, rfl, q1, atI_nat (j := 1) rfl, _, rfl, by decide +kernel, fun H3 s3 => ⟨_, rfl, ?_⟩⟩
      rw [show beginsB (cs "a") = false from by decide +kernel]
      exact k _ (a2.trans s3)
abbrev sFw : Stmt := top 23
abbrev nFw : List Str := ["word"]
theorem scFw : FnScope nFw ["word"] (defScope sFw) := ⟨rfl, rfl, rfl, by decide +kernel, rfl, by decide +kernel, by decide +kernel⟩
theorem has_Fw {CR : PyData → Bool → Prop} {n L : Nat} {f : Addr} {fd : FuncData}  (F : Fun K "is_full_word" "is_full_word" sFw f fd) (g : mg "is_full_word" = some (.ref f)) (B : Blt mg) (hAp : Has P w K mg base L "are_pieces" ["pieces"] (spWs K CR n false)) :
    Has P w K mg base (L + 1) "is_full_word" ["word"] (spFw K CR n) := by
  obtain ⟨fAp, dAp, gAp, kAp, bAp, GAp⟩ := hAp
  refine has_of F g (F.binds (ps := ["word"]) fun _ _ _ _ _ _ us hl => match us, hl with | [_], _ => rfl) (F.ok scFw (fun vs H Q E h => ?_) (fun cdv A outer s H vs Q E hr h => ?_))
  · obtain ⟨v, ws, b, r, rfl, _⟩ := h
    rfl
  · refine ⟨_, (pss_one (ps_ret (pe_and (pe_cmpR (op_neD hr.units) (pv 0) (pe_lst pa_nil) (nomark _)) (pe_one (pe_call GAp hr rfl gAp kAp bAp .nil pass0 (pa_cons (pv 0) pa_nil)))))), ?_⟩
    obtain ⟨v, ws, b, r, rfl, hd, sh, hw, k⟩ := h
    refine rd_nenil rfl hd sh fun H1 s1 => ⟨_, rfl, ?_⟩
    cases ws with
    | nil => exact if_no rfl (k _ s1)
    | cons p ws =>
      have hw := hw.resolve_left (by simp)
      exact if_yes rfl ⟨_, rfl, v, _, b, r, rfl, dp_same s1 hd, hw, fun H2 s2 => k _ (s1.trans s2)⟩
abbrev sAws : Stmt := top 42
abbrev nAws : List Str := ["words", "word"]
theorem scAws : FnScope nAws ["words"] (defScope sAws) := ⟨rfl, rfl, rfl, by decide +kernel, rfl, by decide +kernel, by decide +kernel⟩
theorem has_Aws {f : Addr} {fd : FuncData}  (F : Fun K "are_words" "are_words" sAws f fd) (g : mg "are_words" = some (.ref f)) (B : Blt mg) (hFw : Has P w K mg base 25 "is_full_word" ["word"] (spFw K CRo 1)) :
    Has P w K mg base 26 "are_words" ["words"] (spAws K) := by
  obtain ⟨fFw, dFw, gFw, kFw, bFw, GFw⟩ := hFw
  refine has_of F g (F.binds (ps := ["words"]) fun _ _ _ _ _ _ us hl => match us, hl with | [_], _ => rfl) (F.ok scAws (fun vs H Q E h => ?_) (fun cdv A outer s H vs Q E hr h => ?_))
  · obtain ⟨v, b, rfl, _⟩ := h
    rfl
  · refine ⟨_, (pss_one (ps_ret (pe_callB (cr_all rfl) (by rfl) B.all (by decide +kernel) (pa_cons (pe_lc (own := [("word", 1)]) (g := gName 1) (tt := tYes) rfl scAws.nd (pi_list (pv 0)) (blkOk_by (N := nAws) (sc := defScope sAws) (by decide +kernel)) (fun _ _ _ _ _ => pg_name (i := 1) scAws.nd rfl (.inl rfl)) (fun _ _ _ _ _ => pts_nil) (fun _ _ _ _ _ => (pe_call GFw (hr.mono (by decide)) rfl gFw kFw bFw .nil pass0 (pa_cons (pv 1) pa_nil)))) pa_nil)))), ?_⟩
    obtain ⟨v, b, rfl, hd, k⟩ := h
    obtain ⟨a, xs, rfl, hq, all⟩ := dp_lst hd
    have lx := dpLen all
    have lb : (cmdW b).length ≤ 1 := by cases b <;> decide
    refine ⟨_, rfl, a, rfl, ⟨_, hq⟩, fun D hD => lc_all (bs := (cmdW b).map fun _ => true) hq hD (by rw [List.length_map, lx]) (by omega) (fun i x b' H' Q' hx hb s2 q => ?_) (fun H2 s2 q1 => ⟨D, _, rfl, q1, ?_⟩)⟩
    · obtain ⟨d, hdi, dp⟩ := dpAt' all hx
      rw [List.getElem?_map, hdi] at hb
      obtain rfl := Option.some.inj hb
      have ed : d = .list aW := by
        cases b with
        | false => cases hdi
        | true =>
          have m := List.mem_of_getElem? hdi
          exact List.mem_singleton.mp m
      subst ed
      exact ⟨rfl, _, rfl, x, aW, true, true, rfl, dp_same s2 dp, aW_sh, .inr aW_rel, fun H3 s3 => q H3 s3⟩
    · have e : ((cmdW b).map fun _ => true).all id = true := by cases b <;> rfl
      rw [e]
      exact k _ s2
abbrev sAt : Stmt := top 46
abbrev nAt : List Str := ["turns", "number", "mark", "word"]
theorem scAt : FnScope nAt ["turns"] (defScope sAt) := ⟨rfl, rfl, rfl, by decide +kernel, rfl, by decide +kernel, by decide +kernel⟩
theorem has_At {f : Addr} {fd : FuncData}  (F : Fun K "are_turns" "are_turns" sAt f fd) (g : mg "are_turns" = some (.ref f)) (B : Blt mg) :
    Has P w K mg base 1 "are_turns" ["turns"] (spNo K) := by
  refine has_of F g (F.binds (ps := ["turns"]) fun _ _ _ _ _ _ us hl => match us, hl with | [_], _ => rfl) (F.ok scAt (fun vs H Q E h => ?_) (fun cdv A outer s H vs Q E hr h => ?_))
  · obtain ⟨v, rfl, _⟩ := h
    rfl
  · refine ⟨_, (pss_one (ps_ret (pe_callB (cr_all rfl) (by rfl) B.all (by decide +kernel) (pa_cons (pe_lc (own := [("number", 1), ("mark", 2), ("word", 3)]) (g := gTup K 3 (gCons (gName 1) (gCons (gName 2) (gCons (gName 3) gNil)))) (tt := tYes) rfl scAt.nd (pi_list (pv 0)) (blkOk_by (N := nAt) (sc := defScope sAt) (by decide +kernel)) (fun _ _ _ _ _ => pg_tup rfl (pgs_cons (pg_name (i := 1) scAt.nd rfl (.inl rfl)) (pgs_cons (pg_name (i := 2) scAt.nd rfl (.inl rfl)) (pgs_cons (pg_name (i := 3) scAt.nd rfl (.inl rfl)) pgs_nil)))) (fun _ _ _ _ _ => pts_nil) (fun _ _ _ _ _ => pe_no)) pa_nil)))), ?_⟩
    obtain ⟨v, rfl, hd, k⟩ := h
    obtain ⟨a, xs, rfl, hq, all⟩ := dp_lst hd
    cases all
    refine ⟨_, rfl, a, rfl, ⟨_, hq⟩, fun D hD => lc_it (walk_list (xs := [])) (fun i H' => H' = L2.upd H D (.lst [])) rfl (fun i H' _ e => by subst e; exact (same_upd hD).seq hq) (fun i x H' H2 hi => absurd hi (by simp)) (fun H' e => ?_)⟩
    subst e
    have s1 := same_upd (o := .lst []) hD
    exact ⟨D, [], rfl, SqL.of upd_same, k _ s1⟩
abbrev sDo : Stmt := top 39
abbrev nDo : List Str := ["sets", "words", "turns", "name", "word"]
theorem scDo : FnScope nDo ["sets", "words", "turns"] (defScope sDo) := ⟨rfl, rfl, rfl, by decide +kernel, rfl, by decide +kernel, by decide +kernel⟩
theorem has_Do {f : Addr} {fd : FuncData}  (F : Fun K "is_do" "is_do" sDo f fd) (g : mg "is_do" = some (.ref f)) (B : Blt mg) (hAt : Has P w K mg base 1 "are_turns" ["turns"] (spNo K)) (hAws : Has P w K mg base 26 "are_words" ["words"] (spAws K)) (hFi : Has P w K mg base 3 "is_first_word" ["word", "sets"] (spFi K)) :
    Has P w K mg base 27 "is_do" ["sets", "words", "turns"] (spDo K) := by
  obtain ⟨fAt, dAt, gAt, kAt, bAt, GAt⟩ := hAt
  obtain ⟨fAws, dAws, gAws, kAws, bAws, GAws⟩ := hAws
  obtain ⟨fFi, dFi, gFi, kFi, bFi, GFi⟩ := hFi
  refine has_of F g (F.binds (ps := ["sets", "words", "turns"]) fun _ _ _ _ _ _ us hl => match us, hl with | [_, _, _], _ => rfl) (F.ok scDo (fun vs H Q E h => ?_) (fun cdv A outer s H vs Q E hr h => ?_))
  · obtain ⟨v, u, t, b, rfl, _⟩ := h
    rfl
  · refine ⟨_, (pss_cons (ps_if (PW.pt (pw_and (pt_cmpR (op_eqD hr.units) (pv 0) (pe_lst pa_nil) (nomark _)) (pw_and (pt_cmpR (op_eqD hr.units) (pv 1) (pe_lst pa_nil) (nomark _)) (pw_and1 (pt_cmpR (op_eqD hr.units) (pv 2) (pe_lst pa_nil) (nomark _)))))) (pss_one (ps_ret pe_bl)) pss_nil)
        (pss_cons (ps_if (pt_not (pt_val (pe_callB (cr_all rfl) (by rfl) B.all (by decide +kernel) (pa_cons (pe_lc (own := [("name", 3), ("word", 4)]) (g := gTup K 2 (gCons (gName 3) (gCons (gName 4) gNil))) (tt := tYes) rfl scDo.nd (pi_list (pv 0)) (blkOk_by (N := nDo) (sc := defScope sDo) (by decide +kernel)) (fun _ _ _ _ _ => pg_tup rfl (pgs_cons (pg_name (i := 3) scDo.nd rfl (.inl rfl)) (pgs_cons (pg_name (i := 4) scDo.nd rfl (.inl rfl)) pgs_nil))) (fun _ _ _ _ _ => pts_nil) (fun _ _ _ _ _ => pe_no)) pa_nil)))) (pss_one (ps_ret pe_bl)) pss_nil)
        (pss_cons (ps_if (PW.pt (pw_or (pt_not (pt_val (pe_call GAws hr rfl gAws kAws bAws .nil pass0 (pa_cons (pv 1) pa_nil)))) (pw_or1 (pt_not (pt_val (pe_call GAt (hr.mono (by decide)) rfl gAt kAt bAt .nil pass0 (pa_cons (pv 2) pa_nil))))))) (pss_one (ps_ret pe_bl)) pss_nil)
        (pss_one (ps_ret (pe_or (pe_cmpR (op_eqD hr.units) (pv 1) (pe_lst pa_nil) (nomark _)) (pe_one (pe_call GFi (hr.mono (by decide)) rfl gFi kFi bFi .nil pass0 (pa_cons (pe_ix ix_list (pv 1) pe_int (fun _ _ => rfl)) (pa_cons (pv 0) pa_nil)))))))))), ?_⟩
    obtain ⟨v, u, t, b, rfl, hv, hu, ht, k⟩ := h
    refine rd_eqnil rfl hv nil_sh fun H1 s1 => ⟨_, rfl, if_yes rfl (rd_eqnil rfl (dp_same s1 hu) (cw_sh b) fun H2 s2 => ⟨_, rfl, ?_⟩)⟩
    have a2 := s1.trans s2
    cases b with
    | false =>
      refine if_yes rfl (rd_eqnil rfl (dp_same a2 ht) nil_sh fun H3 s3 => ⟨_, rfl, if_yes rfl (k _ (a2.trans s3))⟩)
    | true =>
      refine if_no rfl (if_no rfl ?_)
      obtain ⟨a, xs, rfl, hq, all⟩ := dp_lst (dp_same a2 hv)
      cases all
      refine ⟨_, rfl, a, rfl, ⟨_, hq⟩, fun D hD => lc_it (walk_list (xs := [])) (fun i H' => H' = L2.upd H2 D (.lst [])) rfl (fun i H' _ e => by subst e; exact (same_upd hD).seq hq) (fun i x H' H2 hi => absurd hi (by simp)) (fun H3 e => ?_)⟩
      subst e
      have a3 := a2.trans (same_upd (o := .lst []) hD)
      refine ⟨D, [], rfl, SqL.of upd_same, _, rfl, if_no rfl ?_⟩
      generalize L2.upd H2 D (.lst []) = H3 at a3 ⊢
      refine ⟨_, rfl, u, true, rfl, dp_same a3 hu, fun H4 s4 => ⟨_, rfl, if_no rfl ?_⟩⟩
      have a4 := a3.trans s4
      refine ⟨_, rfl, t, rfl, dp_same a4 ht, fun H5 s5 => ⟨_, rfl, if_no rfl ?_⟩⟩
      have a5 := a4.trans s5
      refine rd_eqnil rfl (dp_same a5 hu) (cw_sh true) fun H6 s6 => ⟨_, rfl, if_no rfl ?_⟩
      have a6 := a5.trans s6
      obtain ⟨c, ys, rfl, hqc, allc⟩ := dp_lst (dp_same a6 hu)
      cases allc with
      | @cons x _ ys _ h1 h2 =>
        cases h2
        exact ⟨_, rfl, c, _, 0, _, rfl, rfl, hqc, atI_nat (j := 0) rfl, _, rfl, x, .ref a, rfl, h1, dp_same a6 hv, fun H7 s7 => k _ (a6.trans s7)⟩
abbrev sCm : Stmt := top 37
abbrev nCm : List Str := ["command", "sets", "words", "turns", "name", "body", "commands", "piped", "part", "other"]
theorem scCm : FnScope nCm ["command"] (defScope sCm) := ⟨rfl, rfl, rfl, by decide +kernel, rfl, by decide +kernel, by decide +kernel⟩
theorem has_Cm {f : Addr} {fd : FuncData}  (F : Fun K "is_command" "is_command" sCm f fd) (g : mg "is_command" = some (.ref f)) (B : Blt mg) (hDo : Has P w K mg base 27 "is_do" ["sets", "words", "turns"] (spDo K)) :
    Has P w K mg base 28 "is_command" ["command"] (spCm K) := by
  obtain ⟨fDo, dDo, gDo, kDo, bDo, GDo⟩ := hDo
  refine has_of F g (F.binds (ps := ["command"]) fun _ _ _ _ _ _ us hl => match us, hl with | [_], _ => rfl) (F.ok scCm (fun vs H Q E h => ?_) (fun cdv A outer s H vs Q E hr h => ?_))
  · obtain ⟨v, b, rfl, _⟩ := h
    rfl
  · refine ⟨_, (pss_cons (ps_match (pv 0)
        (pcs_cons (is := [1, 2, 3]) scCm.nd (pp_seq rfl (pps_cons pp_lit (pps_cons pp_cap (pps_cons pp_cap (pps_cons pp_cap pps_nil))))) (.cons ⟨rfl, .inl rfl, .inr rfl⟩ (.cons ⟨rfl, .inl rfl, .inr rfl⟩ (.cons ⟨rfl, .inl rfl, .inr rfl⟩ .nil)))
          (pss_one (ps_ret (pe_call GDo (hr.mono (by decide)) rfl gDo kDo bDo .nil pass0 (pa_cons (pv 1) (pa_cons (pv 2) (pa_cons (pv 3) pa_nil))))))
        pcs_never)) pss_never), ?_⟩
    obtain ⟨v, b, rfl, hd, k⟩ := h
    obtain ⟨a, xs, rfl, hq, all⟩ := dp_tup hd
    cases all with
    | cons h0 all => cases all with
      | cons h1 all => cases all with
        | cons h2 all => cases all with
          | cons h3 all =>
            cases all
            cases h0
            refine ⟨_, rfl, case_hit hq hit_lit ?_⟩
            exact ⟨_, rfl, _, rfl, _, rfl, _, _, _, b, rfl, h1, h2, h3, k⟩
end
end Qb
end PySem
namespace PySem
namespace Qb
open PySem.W PySem.Calls PyProof.Rows L2
/-! # the scripts and the commands in words -/
def Pth (H : Hp) (n : Nat) (a : Addr) : Prop := ∃ zs, H a = some (.lst zs) ∧ zs.length ≤ n
theorem Pth.same {H H' : Hp} {n m : Nat} {a : Addr} (h : Pth H n a) (s : Same H H') (l : n ≤ m) : Pth H' m a := by
  obtain ⟨zs, h, l2⟩ := h
  exact ⟨zs, s _ _ h, Nat.le_trans l2 l⟩
/-- new tuples (path, part), the part's data as they stood in G -/
def Inn (K : Frag) (m : Nat) (G H H' : Hp) (v : V) (d : PyData) : Prop := ∃ t pa x, v = .ref t ∧ H t = none ∧ H' t = some (.tup [.ref pa, x]) ∧ H pa = none ∧ Pth H' m pa ∧ Dp K G x d
theorem Inn.same {K : Frag} {n m : Nat} {G H0 H H' H2 : Hp} {v : V} {q : PyData} (h : Inn K n G H H' v q) (s0 : Same H0 H) (s : Same H' H2) (l : n ≤ m) : Inn K m G H0 H2 v q := by
  obtain ⟨t, pa, x, e, n1, h1, n2, h2, h3⟩ := h
  exact ⟨t, pa, x, e, s0.free n1, s _ _ h1, s0.free n2, h2.same s l, h3⟩
/-- what is new is not what was there -/
theorem Inn.hide {K : Frag} {n : Nat} {G H H' : Hp} {W : Addr} {o : HO} {v : V} {q : PyData} (h : Inn K n G H H' v q) (hW : H W = some o) : Inn K n G H (hide H' W) v q := by
  obtain ⟨t, pa, x, e, n1, h1, n2, ⟨zs, hz, lz⟩, h3⟩ := h
  exact ⟨t, pa, x, e, n1, hide_ne h1 (fun z => by rw [z, hW] at n1; cases n1), n2, ⟨zs, hide_ne hz (fun z => by rw [z, hW] at n2; cases n2), lz⟩, h3⟩
/-- a list that is being made -/
def MkL {α : Type} (R : Hp → V → α → Prop) (D : Addr) (as : List α) (H : Hp) : Prop := ∃ ys, H D = some (.lst ys) ∧ All2 (R (hide H D)) ys as
theorem MkL.start {α : Type} {R : Hp → V → α → Prop} {D : Addr} {H : Hp} : MkL R D [] (L2.upd H D (.lst [])) := ⟨[], upd_same, .nil⟩
theorem MkL.same {α : Type} {R : Hp → V → α → Prop} {D : Addr} {as : List α} {H H' : Hp} (mono : ∀ H1 H2 y a, Same H1 H2 → R H1 y a → R H2 y a) (h : MkL R D as H) (s : Same H H') : MkL R D as H' := by
  obtain ⟨ys, hD, al⟩ := h
  exact ⟨ys, s _ _ hD, al.imp fun _ _ r => mono _ _ _ _ (hide_mono s) r⟩
theorem MkL.add {α : Type} {R : Hp → V → α → Prop} {D : Addr} {as : List α} {H : Hp} (mono : ∀ H1 H2 y a, Same H1 H2 → R H1 y a → R H2 y a) (h : MkL R D as H) {u : V} {a : α} (r : R (hide H D) u a) (l : as.length + 1 ≤ sizeLine) :
    ∃ ys, H D = some (.lst ys) ∧ ys.length + 1 ≤ sizeLine ∧ MkL R D (as ++ [a]) (L2.upd H D (.lst (ys ++ [u]))) := by
  obtain ⟨ys, hD, al⟩ := h
  exact ⟨ys, hD, by rw [al.len]; exact l, _, upd_same, (al.imp fun _ _ r => mono _ _ _ _ hide_upd r).app (.cons (mono _ _ _ _ hide_upd r) .nil)⟩
theorem MkL.ext {α : Type} {R : Hp → V → α → Prop} {D : Addr} {as bs : List α} {zs : List V} {H : Hp} (mono : ∀ H1 H2 y a, Same H1 H2 → R H1 y a → R H2 y a) (h : MkL R D as H) (r : All2 (R (Qb.hide H D)) zs bs) (l : as.length + bs.length ≤ sizeLine) :
    ∃ ys, H D = some (.lst ys) ∧ ys.length + zs.length ≤ sizeLine ∧ MkL R D (as ++ bs) (L2.upd H D (.lst (ys ++ zs))) := by
  obtain ⟨ys, hD, al⟩ := h
  exact ⟨ys, hD, by rw [al.len, r.len]; exact l, _, upd_same, (al.imp fun _ _ r => mono _ _ _ _ hide_upd r).app (r.imp fun _ _ r => mono _ _ _ _ hide_upd r)⟩
theorem Inn.mono {K : Frag} {m : Nat} {G H : Hp} : ∀ (H1 H2 : Hp) (y : V) (a : PyData), Same H1 H2 → Inn K m G H H1 y a → Inn K m G H H2 y a := fun _ _ _ _ s r => r.same (Same.refl _) s (Nat.le_refl _)
theorem Inn.monoD {K : Frag} {m : Nat} {G H : Hp} {D : Addr} : ∀ (H1 H2 : Hp) (y : V) (a : PyData), Same H1 H2 → Inn K m G H (Qb.hide H1 D) y a → Inn K m G H (Qb.hide H2 D) y a := fun _ _ _ _ s r => r.same (Same.refl _) (hide_mono s) (Nat.le_refl _)
def dd5 : List Str := ["lack", "set", "must", "other", "cut"]
theorem dd5_hit {s : Str} (h : s ∈ dd5) : Hit (rOr [rLit "lack", rLit "set", rLit "must", rLit "other", rLit "cut"]) s := by
  rcases List.mem_cons.mp h with rfl | h
  · exact hit_or hit_lit
  rcases List.mem_cons.mp h with rfl | h
  · exact hit_or2 (miss_lit (by decide +kernel)) (hit_or hit_lit)
  rcases List.mem_cons.mp h with rfl | h
  · exact hit_or2 (miss_lit (by decide +kernel)) (hit_or2 (miss_lit (by decide +kernel)) (hit_or hit_lit))
  rcases List.mem_cons.mp h with rfl | h
  · exact hit_or2 (miss_lit (by decide +kernel)) (hit_or2 (miss_lit (by decide +kernel)) (hit_or2 (miss_lit (by decide +kernel)) (hit_or hit_lit)))
  · rw [List.mem_singleton.mp h]
    exact hit_or2 (miss_lit (by decide +kernel)) (hit_or2 (miss_lit (by decide +kernel)) (hit_or2 (miss_lit (by decide +kernel)) (hit_or2 (miss_lit (by decide +kernel)) (hit_or hit_lit))))
theorem zip_miss : Miss (rOr [rLit "lack", rLit "set", rLit "must", rLit "other", rLit "cut"]) "zip" :=
  miss_or (miss_lit (by decide +kernel)) (miss_or (miss_lit (by decide +kernel)) (miss_or (miss_lit (by decide +kernel)) (miss_or (miss_lit (by decide +kernel)) (miss_or (miss_lit (by decide +kernel)) miss_or0))))
/-- the scripts of a piece; f: those of the words within -/
def scrP (f : List PyData → List PyData) : PyData → List PyData
  | .tuple [.str k, d] => match d with
    | .list l => if k = "run" then [.list l] else if k = "wide" then f l else []
    | _ => []
  | .tuple [.str k, _, .tuple [.str q, _, .list l]] => if k = "name" then if q ∈ dd5 then f l else [] else []
  | _ => []
theorem scr_two (f : List PyData → List PyData) (k : Str) (l : List PyData) : scrP f (.tuple [.str k, .list l]) = if k = "run" then [.list l] else if k = "wide" then f l else [] := rfl
theorem scr_three (f : List PyData → List PyData) (k x q : Str) (c : PyData) (l : List PyData) : scrP f (.tuple [.str k, .str x, .tuple [.str q, c, .list l]]) = if k = "name" then if q ∈ dd5 then f l else [] else [] := rfl
def scr : Nat → List PyData → List PyData
  | 0, _ => []
  | n + 1, ws => ws.flatMap (scrP (scr n))
def spSw (K : Frag) (CR : PyData → Bool → Prop) (n : Nat) : Sp := fun vs H Q _ => ∃ (G : Hp) (v : V) (ws : List PyData) (i b r : Bool), vs = [v] ∧ Same G H ∧ Dp K G v (.list ws) ∧ WsR CR n i ws b r ∧ (scr n ws).length ≤ 5000 ∧
  ∀ H' a xs, Same H H' → H a = none → H' a = some (.lst xs) → All2 (Inn K (3 * n) G H H') xs (scr n ws) → Q (.ref a) H'
section
variable {P : Program} {w : World} {K : Frag} {mg : Str → Option Value} {base : Heap}
abbrev sSw : Stmt := top 57
abbrev nSw : List Str := ["pieces", "found", "at", "piece", "script", "inner", "path", "deeper", "word"]
theorem scSw : FnScope nSw ["pieces"] (defScope sSw) := ⟨rfl, rfl, rfl, by decide +kernel, rfl, by decide +kernel, by decide +kernel⟩
theorem has_Sw {CR : PyData → Bool → Prop} {n : Nat} (n14 : n ≤ 14) {f : Addr} {fd : FuncData}  (F : Fun K "scripts_in_word" "scripts_in_word" sSw f fd) (g : mg "scripts_in_word" = some (.ref f)) (B : Blt mg) (hSw : Has P w K mg base (n + 1) "scripts_in_word" ["pieces"] (spSw K CR n)) :
    Has P w K mg base (n + 2) "scripts_in_word" ["pieces"] (spSw K CR (n + 1)) := by
  obtain ⟨fSw, dSw, gSw, kSw, bSw, GSw⟩ := hSw
  refine has_of F g (F.binds (ps := ["pieces"]) fun _ _ _ _ _ _ us hl => match us, hl with | [_], _ => rfl) (F.ok scSw (fun vs H Q E h => ?_) (fun cdv A outer s H vs Q E hr h => ?_))
  · obtain ⟨G, v, ws, i, b, r, rfl, _⟩ := h
    rfl
  · refine ⟨_, (pss_cons (ps_set (i := 1) scSw.nd rfl (.inl rfl) (pe_lst pa_nil))
        (pss_cons (ps_for PassesOwn.never rfl (pi_enum (by rfl) B.enumerate (pa_cons (pv 0) pa_nil)) (pg_tup rfl (pgs_cons (pg_name (i := 2) scSw.nd rfl (.inr rfl)) (pgs_cons (pg_name (i := 3) scSw.nd rfl (.inl rfl)) pgs_nil)))
          (pss_one (ps_match (pv 3)
          (pcs_cons (is := [4]) scSw.nd (pp_seq rfl (pps_cons pp_lit (pps_cons pp_cap pps_nil))) (.cons ⟨rfl, .inl rfl, .inr rfl⟩ .nil)
            (pss_one (ps_expr (pe_bm PySem.F.plainAttrs_list PySem.F.slot_list_append PySem.F.type_list_append mt_append (pv 1) (pa_cons (pe_tup (pa_cons (pe_lst (pa_cons (pv 2) (pa_cons pe_int pa_nil))) (pa_cons (pv 4) pa_nil))) pa_nil))))
          (pcs_cons (is := [5]) scSw.nd (pp_seq rfl (pps_cons pp_lit (pps_cons pp_cap pps_nil))) (.cons ⟨rfl, .inl rfl, .inr rfl⟩ .nil)
            (pss_one (ps_expr (pe_bm PySem.F.plainAttrs_list PySem.F.slot_list_extend PySem.F.type_list_extend mt_extend (pv 1) (pa_cons (pe_lc (te := tTup (tCons (tOp rCat (tLst (tCons (tVar 2) (tCons (tC (.int 1)) tNil))) (tVar 6)) (tCons (tVar 7) tNil))) (own := [("path", 6), ("deeper", 7)]) (g := gTup K 2 (gCons (gName 6) (gCons (gName 7) gNil))) (tt := tYes) rfl scSw.nd (pi_list (pe_call GSw hr rfl gSw kSw bSw .nil pass0 (pa_cons (pv 5) pa_nil))) (blkOk_by (N := nSw) (sc := defScope sSw) (by decide +kernel)) (fun _ _ _ _ _ => pg_tup rfl (pgs_cons (pg_name (i := 6) scSw.nd rfl (.inl rfl)) (pgs_cons (pg_name (i := 7) scSw.nd rfl (.inl rfl)) pgs_nil))) (fun _ _ _ _ _ => pts_nil) (fun _ _ _ _ _ => (pe_tup (pa_cons (pe_op op_cat (pe_lst (pa_cons (pv 2) (pa_cons pe_int pa_nil))) (pv 6)) (pa_cons (pv 7) pa_nil))))) pa_nil))))
          (pcs_cons (is := [8]) scSw.nd (pp_seq rfl (pps_cons pp_lit (pps_cons pp_any (pps_cons (pp_seq rfl (pps_cons (pp_or (pf_cons pp_lit (pf_cons pp_lit (pf_cons pp_lit (pf_cons pp_lit (pf_cons pp_lit pf_nil)))))) (pps_cons pp_any (pps_cons pp_cap pps_nil)))) pps_nil)))) (.cons ⟨rfl, .inl rfl, .inr rfl⟩ .nil)
            (pss_one (ps_expr (pe_bm PySem.F.plainAttrs_list PySem.F.slot_list_extend PySem.F.type_list_extend mt_extend (pv 1) (pa_cons (pe_lc (te := tTup (tCons (tOp rCat (tLst (tCons (tVar 2) (tCons (tC (.int 2)) (tCons (tC (.int 2)) tNil)))) (tVar 6)) (tCons (tVar 7) tNil))) (own := [("path", 6), ("deeper", 7)]) (g := gTup K 2 (gCons (gName 6) (gCons (gName 7) gNil))) (tt := tYes) rfl scSw.nd (pi_list (pe_call GSw hr rfl gSw kSw bSw .nil pass0 (pa_cons (pv 8) pa_nil))) (blkOk_by (N := nSw) (sc := defScope sSw) (by decide +kernel)) (fun _ _ _ _ _ => pg_tup rfl (pgs_cons (pg_name (i := 6) scSw.nd rfl (.inl rfl)) (pgs_cons (pg_name (i := 7) scSw.nd rfl (.inl rfl)) pgs_nil))) (fun _ _ _ _ _ => pts_nil) (fun _ _ _ _ _ => (pe_tup (pa_cons (pe_op op_cat (pe_lst (pa_cons (pv 2) (pa_cons pe_int (pa_cons pe_int pa_nil)))) (pv 6)) (pa_cons (pv 7) pa_nil))))) pa_nil)))) pcs_nil))))))
        (pss_one (ps_ret (pv 1))))), ?_⟩
    obtain ⟨G, v, ws, i0, b, r, rfl, sG, hd, hws, hl, k⟩ := h
    obtain ⟨l, xs, rfl, hq, all⟩ := dp_lst hd
    have lx := dpLen all
    have l200 : ws.length ≤ n + 3 := hws.1
    refine ⟨(by decide : 0 ≤ sizeLine), fun D nD => ?_⟩
    have qD := same_upd (o := .lst []) nD
    refine ⟨_, rfl, l, xs, rfl, (sG.trans qD).seq hq, for_it (walk_enum (xs := xs)) (fun i σ H' => (∃ a b c d e f g, σ = [some (.ref l), some (.ref D), a, b, c, d, e, f, g]) ∧ Same H H' ∧ MkL (Inn K (3 * (n + 1)) G H) D ((ws.take i).flatMap (scrP (scr n))) H') ⟨⟨_, _, _, _, _, _, _, rfl⟩, qD, MkL.start⟩
      (fun i σ H' _ e => (sG.trans e.2.1).seq hq) (fun i x σ H' H2 hi e y => ?_) (fun σ H' e => ?_)⟩
    · obtain ⟨⟨s1, s2, s3, s4, s5, s6, s7, rfl⟩, sH, mk⟩ := e
      obtain ⟨T, x1, x2, rfl, nT, rfl, h1, hx⟩ := y
      have h1 : some (V.int (i : Nat)) = some x1 := h1
      obtain rfl := Option.some.inj h1
      obtain ⟨p, hp, dp⟩ := dpAt' all hx
      have sT := same_upd (o := .tup [.int (i : Nat), x2]) nT
      have sA := sH.trans sT
      have mk := mk.same Inn.mono sT
      refine ⟨T, _, rfl, SqT.of upd_same, rfl, _, _, rfl, _, _, rfl, rfl, _, rfl, ?_⟩
      generalize L2.upd H' T (.tup [.int (i : Nat), x2]) = H2 at sT sA mk ⊢
      rw [take_snoc hp, List.flatMap_append, List.flatMap_singleton]
      obtain ⟨_, ps, allp, _, _⟩ := hws
      obtain ⟨q, _, hpc⟩ := allp.mem (List.mem_of_getElem? hp)
      have tot : ((ws.take i).flatMap (scrP (scr n))).length + (scrP (scr n) p).length ≤ 5000 := by
        have e1 : ws = ws.take i ++ p :: ws.drop (i + 1) := by
          obtain ⟨hi', rfl⟩ := List.getElem?_eq_some_iff.mp hp
          rw [List.getElem_cons_drop, List.take_append_drop]
        have e2 : scr (n + 1) ws = (ws.take i).flatMap (scrP (scr n)) ++ (scrP (scr n) p ++ (ws.drop (i + 1)).flatMap (scrP (scr n))) := by
          show ws.flatMap (scrP (scr n)) = _
          conv => lhs; rw [e1]
          rw [List.flatMap_append, List.flatMap_cons]
        rw [e2, List.length_append, List.length_append] at hl
        omega
      have line : ∀ {a b : Nat}, a + b ≤ 5000 → a + b ≤ sizeLine := fun h => by rw [sizeLine_eq]; omega
      have none' : scrP (scr n) p = [] → (∃ a b c d e f g, [some (V.ref l), some (.ref D), some (V.int (i : Nat)), some x2, s3, s4, s5, s6, s7] = [some (V.ref l), some (.ref D), a, b, c, d, e, f, g]) ∧ Same H H2 ∧ MkL (Inn K (3 * (n + 1)) G H) D ((ws.take i).flatMap (scrP (scr n)) ++ scrP (scr n) p) H2 := fun e => by
        rw [e, List.append_nil]
        exact ⟨⟨_, _, _, _, _, _, _, rfl⟩, sA, mk⟩
      obtain ⟨ys0, hDy, al0⟩ := id mk
      rcases hpc with ⟨kk, x, rfl, hk, hx', _, _⟩ | ⟨w', bw, rw', rfl, hw, _, _⟩ | ⟨x, d, bd, rfl, hx', hd', _⟩ | ⟨t, rfl, _, _, _, _, _⟩ | ⟨cs, bs, rfl, hcl, _, _, _, _⟩
      · obtain ⟨a, y, rfl, hqa, h1⟩ := pc_two (dp_same (sG.trans sA) dp)
        exact case_miss hqa (.inl (miss_lit hk.run)) (case_miss hqa (.inl (miss_lit hk.wide)) (case_miss hqa (.inr (by simp)) (none' rfl)))
      · obtain ⟨a, y, rfl, hqa, h1⟩ := pc_two dp
        have hqa := sqT_same (sG.trans sA) hqa
        have ew : scrP (scr n) (.tuple [.str "wide", .list w']) = scr n w' := by
          rw [scr_two, if_neg (by decide +kernel), if_pos rfl]
        refine case_miss hqa (.inl (miss_lit (by decide +kernel))) (case_hit hqa hit_lit ?_)
        rw [ew] at tot ⊢
        refine ⟨_, rfl, .inl ⟨rfl, _, SqL.of hDy⟩, _, rfl, G, y, w', true, bw, rw', rfl, sG.trans sA, h1, hw, by omega, fun H3 r3 zs s3 fr3 hr3 a3 => ⟨r3, rfl, ⟨_, SqL.of hr3⟩, fun D2 nD2 => ?_⟩⟩
        have mk3 := mk.same Inn.mono s3
        have hD3 := s3 _ _ hDy
        have D2D : D2 ≠ D := fun z => by rw [z, hD3] at nD2; cases nD2
        have lz := a3.len
        refine lc_it (walk_list (xs := zs)) (fun j H' => Same H3 H' ∧ MkL (fun hp y d => Inn K (3 * (n + 1)) G H (hide hp D) y d) D2 ((scr n w').take j) H') ⟨same_upd nD2, MkL.start⟩ (fun j H' _ e => e.1.seq (SqL.of hr3)) (fun j x H' H2' hj e y => ?_) (fun H4 e => ?_)
        · obtain ⟨s4, mk4⟩ := e
          obtain ⟨rfl, hx⟩ := y
          obtain ⟨d, hdj, t2, pa, z, rfl, n1, q1, n2, ⟨zs1, q2, l2⟩, q3⟩ := a3.at hx
          obtain ⟨ys4, hD4, _⟩ := id mk4
          have hD5 := s4 _ _ hD3
          refine ⟨t2, _, rfl, SqT.of (s4 _ _ q1), rfl, _, _, rfl, _, _, rfl, rfl, rfl, ?_⟩
          refine ⟨_, rfl, (by decide : 2 ≤ sizeLine), fun p np => ⟨_, rfl, p, pa, _, zs1, rfl, rfl, upd_same, same_upd np _ _ (s4 _ _ q2), ?_, fun q nq => ⟨_, rfl, (by decide : 2 ≤ sizeLine), fun t nt => ?_⟩⟩⟩
          · show 2 + zs1.length ≤ sizeLine
            rw [sizeLine_eq]
            omega
          have sp := same_upd (o := .lst [V.int (i : Nat), .int 1]) np
          have sq := same_upd (o := .lst ([V.int (i : Nat), .int 1] ++ zs1)) nq
          have st := same_upd (o := .tup [.ref q, z]) nt
          have aA := (sp.trans sq).trans st
          have sB := (sA.trans s3).trans s4
          have qD : q ≠ D := fun z => by rw [z, sp _ _ hD5] at nq; cases nq
          have qD2 : q ≠ D2 := fun z => by rw [z, sp _ _ hD4] at nq; cases nq
          have tD : t ≠ D := fun z => by rw [z, sq _ _ (sp _ _ hD5)] at nt; cases nt
          have tD2 : t ≠ D2 := fun z => by rw [z, sq _ _ (sp _ _ hD4)] at nt; cases nt
          have lt := List.length_take_le j (scr n w')
          have lt2 := List.length_take_le' j (scr n w')
          obtain ⟨ys1, f1, f2, f3⟩ := (mk4.same Inn.monoD aA).add Inn.monoD (u := .ref t) (a := d) ⟨t, q, z, rfl, (sB.trans (sp.trans sq)).free nt, hide_ne (hide_ne upd_same tD2) tD, (sB.trans sp).free nq, ⟨_, hide_ne (hide_ne (st _ _ upd_same) qD2) qD, by rw [List.length_append]; show 2 + zs1.length ≤ _; omega⟩, q3⟩ (line (by omega))
          exact ⟨ys1, f1, f2, same_upd2 (s4.trans aA) nD2, by rw [take_snoc hdj]; exact f3⟩
        · obtain ⟨s4, ys, hD2', al⟩ := e
          rw [List.take_of_length_le (Nat.le_of_eq lz.symm)] at al
          obtain ⟨ys1, f1, f2, f3⟩ := (mk3.same Inn.mono s4).ext Inn.mono (zs := ys) (bs := scr n w') (al.imp fun _ _ r => r.same (Same.refl H) (hide_mono hide_same) (Nat.le_refl _)) (line tot)
          exact ⟨D, D2, ys1, ys, rfl, rfl, f1, hD2', f2, ⟨_, _, _, _, _, _, _, rfl⟩, same_upd2 ((sA.trans s3).trans s4) nD, f3⟩
      · obtain ⟨a, y, z, rfl, hqa, h1, h2⟩ := pc_three dp
        have hqa := sqT_same (sG.trans sA) hqa
        refine case_miss hqa (.inr (by simp)) (case_miss hqa (.inr (by simp)) ?_)
        have nameE : ∀ (q : Str) (c : PyData) (l' : List PyData), scrP (scr n) (.tuple [.str "name", .str x, .tuple [.str q, c, .list l']]) = if q ∈ dd5 then scr n l' else [] := fun q c l' => by
          rw [scr_three, if_pos rfl]
        refine ⟨a, _, rfl, hqa, fun ne => absurd rfl ne, fun _ => hit_lit _ _ ?_⟩
        rcases hd' with ⟨rfl, _, _⟩ | ⟨rfl, _, _⟩ | ⟨kk, c, w', bw, rw', rfl, hkk, hw, _, _⟩ | ⟨m, w', bw, rw', rfl, _, hw, _, _⟩
        · obtain ⟨b, zs, rfl, hqb, allb⟩ := dp_tup h2
          cases allb
          exact ⟨b, [], rfl, sqT_same (sG.trans sA) hqb, fun _ => none' rfl, fun e => absurd e (by simp)⟩
        · obtain ⟨b, zs, rfl, hqb, allb⟩ := dp_tup h2
          cases allb with
          | cons _ allb =>
            cases allb
            exact ⟨b, [_], rfl, sqT_same (sG.trans sA) hqb, fun _ => none' rfl, fun e => absurd e (by simp)⟩
        · obtain ⟨b, cv, y, rfl, hqb, h3, h4⟩ := pc_three h2
          have hqb := sqT_same (sG.trans sA) hqb
          by_cases c5 : kk ∈ dd5
          · have ew := (nameE kk (.bool c) w').trans (if_pos c5)
            refine ⟨b, _, rfl, hqb, fun ne => absurd rfl ne, fun _ => dd5_hit c5 _ _ ?_⟩
            rw [ew] at tot ⊢
            refine ⟨_, rfl, .inl ⟨rfl, _, SqL.of hDy⟩, _, rfl, G, y, w', false, bw, rw', rfl, sG.trans sA, h4, hw, by omega, fun H3 r3 zs s3 fr3 hr3 a3 => ⟨r3, rfl, ⟨_, SqL.of hr3⟩, fun D2 nD2 => ?_⟩⟩
            have mk3 := mk.same Inn.mono s3
            have hD3 := s3 _ _ hDy
            have D2D : D2 ≠ D := fun z => by rw [z, hD3] at nD2; cases nD2
            have lz := a3.len
            refine lc_it (walk_list (xs := zs)) (fun j H' => Same H3 H' ∧ MkL (fun hp y d => Inn K (3 * (n + 1)) G H (hide hp D) y d) D2 ((scr n w').take j) H') ⟨same_upd nD2, MkL.start⟩ (fun j H' _ e => e.1.seq (SqL.of hr3)) (fun j x H' H2' hj e y => ?_) (fun H4 e => ?_)
            · obtain ⟨s4, mk4⟩ := e
              obtain ⟨rfl, hx⟩ := y
              obtain ⟨d, hdj, t2, pa, z, rfl, n1, q1, n2, ⟨zs1, q2, l2⟩, q3⟩ := a3.at hx
              obtain ⟨ys4, hD4, _⟩ := id mk4
              have hD5 := s4 _ _ hD3
              refine ⟨t2, _, rfl, SqT.of (s4 _ _ q1), rfl, _, _, rfl, _, _, rfl, rfl, rfl, ?_⟩
              refine ⟨_, rfl, (by decide : 3 ≤ sizeLine), fun p np => ⟨_, rfl, p, pa, _, zs1, rfl, rfl, upd_same, same_upd np _ _ (s4 _ _ q2), ?_, fun q nq => ⟨_, rfl, (by decide : 2 ≤ sizeLine), fun t nt => ?_⟩⟩⟩
              · show 3 + zs1.length ≤ sizeLine
                rw [sizeLine_eq]
                omega
              have sp := same_upd (o := .lst [V.int (i : Nat), .int 2, .int 2]) np
              have sq := same_upd (o := .lst ([V.int (i : Nat), .int 2, .int 2] ++ zs1)) nq
              have st := same_upd (o := .tup [.ref q, z]) nt
              have aA := (sp.trans sq).trans st
              have sB := (sA.trans s3).trans s4
              have qD : q ≠ D := fun z => by rw [z, sp _ _ hD5] at nq; cases nq
              have qD2 : q ≠ D2 := fun z => by rw [z, sp _ _ hD4] at nq; cases nq
              have tD : t ≠ D := fun z => by rw [z, sq _ _ (sp _ _ hD5)] at nt; cases nt
              have tD2 : t ≠ D2 := fun z => by rw [z, sq _ _ (sp _ _ hD4)] at nt; cases nt
              have lt := List.length_take_le j (scr n w')
              have lt2 := List.length_take_le' j (scr n w')
              obtain ⟨ys1, f1, f2, f3⟩ := (mk4.same Inn.monoD aA).add Inn.monoD (u := .ref t) (a := d) ⟨t, q, z, rfl, (sB.trans (sp.trans sq)).free nt, hide_ne (hide_ne upd_same tD2) tD, (sB.trans sp).free nq, ⟨_, hide_ne (hide_ne (st _ _ upd_same) qD2) qD, by rw [List.length_append]; show 3 + zs1.length ≤ _; omega⟩, q3⟩ (line (by omega))
              exact ⟨ys1, f1, f2, same_upd2 (s4.trans aA) nD2, by rw [take_snoc hdj]; exact f3⟩
            · obtain ⟨s4, ys, hD2', al⟩ := e
              rw [List.take_of_length_le (Nat.le_of_eq lz.symm)] at al
              obtain ⟨ys1, f1, f2, f3⟩ := (mk3.same Inn.mono s4).ext Inn.mono (zs := ys) (bs := scr n w') (al.imp fun _ _ r => r.same (Same.refl H) (hide_mono hide_same) (Nat.le_refl _)) (line tot)
              exact ⟨D, D2, ys1, ys, rfl, rfl, f1, hD2', f2, ⟨_, _, _, _, _, _, _, rfl⟩, same_upd2 ((sA.trans s3).trans s4) nD, f3⟩
          · have hz : kk = "zip" := by
              rcases hkk with z | z
              · exact (c5 ((by decide +kernel : ∀ k ∈ dd4, k ∈ dd5) kk z)).elim
              · exact z
            subst hz
            refine ⟨b, _, rfl, hqb, fun ne => absurd rfl ne, fun _ => zip_miss _ _ ?_⟩
            exact none' ((nameE "zip" (.bool c) w').trans (if_neg c5))
        · obtain ⟨b, cv, y, rfl, hqb, h3, h4⟩ := pc_three h2
          have hqb := sqT_same (sG.trans sA) hqb
          have ew := (nameE "cut" (.str m) w').trans (if_pos (by decide +kernel))
          refine ⟨b, _, rfl, hqb, fun ne => absurd rfl ne, fun _ => dd5_hit (by decide +kernel) _ _ ?_⟩
          rw [ew] at tot ⊢
          refine ⟨_, rfl, .inl ⟨rfl, _, SqL.of hDy⟩, _, rfl, G, y, w', false, bw, rw', rfl, sG.trans sA, h4, hw, by omega, fun H3 r3 zs s3 fr3 hr3 a3 => ⟨r3, rfl, ⟨_, SqL.of hr3⟩, fun D2 nD2 => ?_⟩⟩
          have mk3 := mk.same Inn.mono s3
          have hD3 := s3 _ _ hDy
          have D2D : D2 ≠ D := fun z => by rw [z, hD3] at nD2; cases nD2
          have lz := a3.len
          refine lc_it (walk_list (xs := zs)) (fun j H' => Same H3 H' ∧ MkL (fun hp y d => Inn K (3 * (n + 1)) G H (hide hp D) y d) D2 ((scr n w').take j) H') ⟨same_upd nD2, MkL.start⟩ (fun j H' _ e => e.1.seq (SqL.of hr3)) (fun j x H' H2' hj e y => ?_) (fun H4 e => ?_)
          · obtain ⟨s4, mk4⟩ := e
            obtain ⟨rfl, hx⟩ := y
            obtain ⟨d, hdj, t2, pa, z, rfl, n1, q1, n2, ⟨zs1, q2, l2⟩, q3⟩ := a3.at hx
            obtain ⟨ys4, hD4, _⟩ := id mk4
            have hD5 := s4 _ _ hD3
            refine ⟨t2, _, rfl, SqT.of (s4 _ _ q1), rfl, _, _, rfl, _, _, rfl, rfl, rfl, ?_⟩
            refine ⟨_, rfl, (by decide : 3 ≤ sizeLine), fun p np => ⟨_, rfl, p, pa, _, zs1, rfl, rfl, upd_same, same_upd np _ _ (s4 _ _ q2), ?_, fun q nq => ⟨_, rfl, (by decide : 2 ≤ sizeLine), fun t nt => ?_⟩⟩⟩
            · show 3 + zs1.length ≤ sizeLine
              rw [sizeLine_eq]
              omega
            have sp := same_upd (o := .lst [V.int (i : Nat), .int 2, .int 2]) np
            have sq := same_upd (o := .lst ([V.int (i : Nat), .int 2, .int 2] ++ zs1)) nq
            have st := same_upd (o := .tup [.ref q, z]) nt
            have aA := (sp.trans sq).trans st
            have sB := (sA.trans s3).trans s4
            have qD : q ≠ D := fun z => by rw [z, sp _ _ hD5] at nq; cases nq
            have qD2 : q ≠ D2 := fun z => by rw [z, sp _ _ hD4] at nq; cases nq
            have tD : t ≠ D := fun z => by rw [z, sq _ _ (sp _ _ hD5)] at nt; cases nt
            have tD2 : t ≠ D2 := fun z => by rw [z, sq _ _ (sp _ _ hD4)] at nt; cases nt
            have lt := List.length_take_le j (scr n w')
            have lt2 := List.length_take_le' j (scr n w')
            obtain ⟨ys1, f1, f2, f3⟩ := (mk4.same Inn.monoD aA).add Inn.monoD (u := .ref t) (a := d) ⟨t, q, z, rfl, (sB.trans (sp.trans sq)).free nt, hide_ne (hide_ne upd_same tD2) tD, (sB.trans sp).free nq, ⟨_, hide_ne (hide_ne (st _ _ upd_same) qD2) qD, by rw [List.length_append]; show 3 + zs1.length ≤ _; omega⟩, q3⟩ (line (by omega))
            exact ⟨ys1, f1, f2, same_upd2 (s4.trans aA) nD2, by rw [take_snoc hdj]; exact f3⟩
          · obtain ⟨s4, ys, hD2', al⟩ := e
            rw [List.take_of_length_le (Nat.le_of_eq lz.symm)] at al
            obtain ⟨ys1, f1, f2, f3⟩ := (mk3.same Inn.mono s4).ext Inn.mono (zs := ys) (bs := scr n w') (al.imp fun _ _ r => r.same (Same.refl H) (hide_mono hide_same) (Nat.le_refl _)) (line tot)
            exact ⟨D, D2, ys1, ys, rfl, rfl, f1, hD2', f2, ⟨_, _, _, _, _, _, _, rfl⟩, same_upd2 ((sA.trans s3).trans s4) nD, f3⟩
      · obtain ⟨a, y, rfl, hqa, h1⟩ := pc_two (dp_same (sG.trans sA) dp)
        have e0 : scrP (scr n) (.tuple [.str "sum", t.d]) = [] := by
          cases ht : t.d with
          | list l => rw [scr_two, if_neg (by decide +kernel), if_neg (by decide +kernel)]
          | _ => rfl
        exact case_miss hqa (.inl (miss_lit (by decide +kernel))) (case_miss hqa (.inl (miss_lit (by decide +kernel))) (case_miss hqa (.inr (by simp)) (none' e0)))
      · obtain ⟨a, y, rfl, hqa, h1⟩ := pc_two dp
        have hqa := sqT_same (sG.trans sA) hqa
        have ew : scrP (scr n) (.tuple [.str "run", .list cs]) = [.list cs] := by
          rw [scr_two, if_pos rfl]
        refine case_hit hqa hit_lit ?_
        rw [ew] at tot ⊢
        refine ⟨_, rfl, .inl ⟨rfl, _, SqL.of hDy⟩, _, rfl, (by decide : 2 ≤ sizeLine), fun p np => ⟨_, rfl, (by decide : 2 ≤ sizeLine), fun t nt => ?_⟩⟩
        have sp := same_upd (o := .lst [.int (i : Nat), .int 1]) np
        have st := same_upd (o := .tup [.ref p, y]) nt
        have pD : p ≠ D := fun z => by rw [z, hDy] at np; cases np
        have tD : t ≠ D := fun z => by rw [z, sp _ _ hDy] at nt; cases nt
        obtain ⟨ys1, f1, f2, f3⟩ := ((mk.same Inn.mono sp).same Inn.mono st).add Inn.mono (u := .ref t) (a := .list cs) ⟨t, p, y, rfl, (sA.trans sp).free nt, hide_ne upd_same tD, sA.free np, ⟨_, hide_ne (st _ _ upd_same) pD, by show 2 ≤ _; omega⟩, h1⟩ (line tot)
        exact ⟨D, ys1, _, rfl, rfl, f1, f2, ⟨_, _, _, _, _, _, _, rfl⟩, same_upd2 ((sA.trans sp).trans st) nD, f3⟩
    · obtain ⟨⟨s1, s2, s3, s4, s5, s6, s7, rfl⟩, sH, mk⟩ := e
      rw [List.take_of_length_le (Nat.le_of_eq lx.symm)] at mk
      obtain ⟨ys, hD, al⟩ := mk
      exact ⟨_, rfl, k _ D ys sH nD hD (al.imp fun _ _ r => r.same (Same.refl H) hide_same (Nat.le_refl _))⟩
end
end Qb
end PySem
namespace PySem
namespace Qb
open PySem.W PySem.Calls PyProof.Rows L2
def lstOf : PyData → List PyData
  | .list l => l
  | _ => []
def cms (n : Nat) (ws : List PyData) : List PyData := (scr n ws).flatMap lstOf
theorem scrP_lists {f : List PyData → List PyData} (h : ∀ ws, ∀ d ∈ f ws, ∃ l, d = .list l) (p : PyData) : ∀ d ∈ scrP f p, ∃ l, d = .list l := fun d m => by
  unfold scrP at m
  split at m
  · split at m
    · split at m
      · exact ⟨_, List.mem_singleton.mp m⟩
      · split at m
        · exact h _ _ m
        · cases m
    · cases m
  · split at m
    · split at m
      · exact h _ _ m
      · cases m
    · cases m
  · cases m
theorem scr_lists : ∀ (n : Nat) (ws : List PyData), ∀ d ∈ scr n ws, ∃ l, d = .list l
  | 0, _ => fun d m => by cases m
  | n + 1, ws => fun d m => by
    obtain ⟨p, _, hp⟩ := List.mem_flatMap.mp m
    exact scrP_lists (scr_lists n) p d hp
def spCiw (K : Frag) (CR : PyData → Bool → Prop) (n : Nat) : Sp := fun vs H Q _ => ∃ (G : Hp) (v : V) (ws : List PyData) (i b r : Bool), vs = [v] ∧ Same G H ∧ Dp K G v (.list ws) ∧ WsR CR n i ws b r ∧ (scr n ws).length ≤ 5000 ∧ (cms n ws).length ≤ 5000 ∧
  ∀ H' a xs, Same H H' → H a = none → H' a = some (.lst xs) → All2 (Inn K (3 * n + 1) G H H') xs (cms n ws) → Q (.ref a) H'
section
variable {P : Program} {w : World} {K : Frag} {mg : Str → Option Value} {base : Heap}
abbrev sCiw : Stmt := top 58
abbrev nCiw : List Str := ["word", "found", "path", "script", "at", "command"]
theorem scCiw : FnScope nCiw ["word"] (defScope sCiw) := ⟨rfl, rfl, rfl, by decide +kernel, rfl, by decide +kernel, by decide +kernel⟩
theorem has_Ciw {CR : PyData → Bool → Prop} {n : Nat} (n14 : n ≤ 14) {f : Addr} {fd : FuncData}  (F : Fun K "commands_in_word" "commands_in_word" sCiw f fd) (g : mg "commands_in_word" = some (.ref f)) (B : Blt mg) (hSw : Has P w K mg base (n + 1) "scripts_in_word" ["pieces"] (spSw K CR n)) :
    Has P w K mg base (n + 2) "commands_in_word" ["word"] (spCiw K CR n) := by
  obtain ⟨fSw, dSw, gSw, kSw, bSw, GSw⟩ := hSw
  refine has_of F g (F.binds (ps := ["word"]) fun _ _ _ _ _ _ us hl => match us, hl with | [_], _ => rfl) (F.ok scCiw (fun vs H Q E h => ?_) (fun cdv A outer s H vs Q E hr h => ?_))
  · obtain ⟨G, v, ws, i, b, r, rfl, _⟩ := h
    rfl
  · refine ⟨_, (pss_cons (ps_set (i := 1) scCiw.nd rfl (.inl rfl) (pe_lst pa_nil))
        (pss_cons (ps_for PassesOwn.never rfl (pi_list (pe_call GSw hr rfl gSw kSw bSw .nil pass0 (pa_cons (pv 0) pa_nil))) (pg_tup rfl (pgs_cons (pg_name (i := 2) scCiw.nd rfl (.inr rfl)) (pgs_cons (pg_name (i := 3) scCiw.nd rfl (.inl rfl)) pgs_nil)))
          (pss_one (ps_expr (pe_bm PySem.F.plainAttrs_list PySem.F.slot_list_extend PySem.F.type_list_extend mt_extend (pv 1) (pa_cons (pe_lc (te := tTup (tCons (tOp rCat (tVar 2) (tLst (tCons (tVar 4) tNil))) (tCons (tVar 5) tNil))) (own := [("at", 4), ("command", 5)]) (g := gTup K 2 (gCons (gName 4) (gCons (gName 5) gNil))) (tt := tYes) rfl scCiw.nd (pi_enum (by rfl) B.enumerate (pa_cons (pv 3) pa_nil)) (blkOk_by (N := nCiw) (sc := defScope sCiw) (by decide +kernel)) (fun _ _ _ _ _ => pg_tup rfl (pgs_cons (pg_name (i := 4) scCiw.nd rfl (.inl rfl)) (pgs_cons (pg_name (i := 5) scCiw.nd rfl (.inl rfl)) pgs_nil))) (fun _ _ _ _ _ => pts_nil) (fun _ _ _ _ _ => (pe_tup (pa_cons (pe_op op_cat (pv 2) (pe_lst (pa_cons (pv 4) pa_nil))) (pa_cons (pv 5) pa_nil))))) pa_nil)))))
        (pss_one (ps_ret (pv 1))))), ?_⟩
    obtain ⟨G, v, ws, i0, b, r, rfl, sG, hd, hws, hl, hc, k⟩ := h
    refine ⟨(by decide : 0 ≤ sizeLine), fun D nD => ?_⟩
    have qD := same_upd (o := .lst []) nD
    refine ⟨_, rfl, G, v, ws, i0, b, r, rfl, sG.trans qD, hd, hws, hl, fun H2 rr xs s2 fr hr2 aI0 => ?_⟩
    have hD2 := s2 _ _ (upd_same (H := H) (a := D) (o := .lst []))
    have aI := aI0.imp fun _ _ h => h.hide (W := D) upd_same
    have rD : rr ≠ D := fun z => by
      rw [z, upd_same] at fr
      cases fr
    have hrh := hide_ne hr2 rD
    refine ⟨rr, rfl, ⟨_, SqL.of hr2⟩, for_it (walk_list (xs := xs)) (fun i σ H' => (∃ b c d e, σ = [some v, some (.ref D), b, c, d, e]) ∧ Same H H' ∧ Same (hide H2 D) (hide H' D) ∧ MkL (Inn K (3 * n + 1) G H) D (((scr n ws).take i).flatMap lstOf) H')
      ⟨⟨_, _, _, _, rfl⟩, qD.trans s2, Same.refl _, [], hD2, .nil⟩ (fun i σ H' _ e => SqL.of (hide_same _ _ (e.2.2.1 _ _ hrh))) (fun i x σ Ha H' hi e y => ?_) (fun σ H' e => ?_)⟩
    · obtain ⟨⟨s1, s3, s4, s5, rfl⟩, sH, sh, mk⟩ := e
      obtain ⟨rfl, hx⟩ := y
      obtain ⟨d, hdi, t, pa, z, rfl, n1, q1, n2, ⟨zs1, q2, l2⟩, q3⟩ := aI.at hx
      obtain ⟨cs, rfl⟩ := scr_lists n ws d (List.mem_of_getElem? hdi)
      have tot : (((scr n ws).take i).flatMap lstOf).length + cs.length ≤ 5000 := by
        have e1 : scr n ws = (scr n ws).take i ++ .list cs :: (scr n ws).drop (i + 1) := by
          obtain ⟨hi', e⟩ := List.getElem?_eq_some_iff.mp hdi
          rw [← e, List.getElem_cons_drop, List.take_append_drop]
        have e2 : cms n ws = ((scr n ws).take i).flatMap lstOf ++ (cs ++ ((scr n ws).drop (i + 1)).flatMap lstOf) := by
          show (scr n ws).flatMap lstOf = _
          conv => lhs; rw [e1]
          rw [List.flatMap_append, List.flatMap_cons]
          rfl
        rw [e2, List.length_append, List.length_append] at hc
        omega
      have line : ∀ {a b : Nat}, a + b ≤ 5000 → a + b ≤ sizeLine := fun h => by rw [sizeLine_eq]; omega
      have ht := hide_same _ _ (sh _ _ q1)
      have hpa := sh _ _ q2
      obtain ⟨ys0, hDy, _⟩ := id mk
      obtain ⟨ca, cx, rfl, hqc, allc⟩ := dp_lst q3
      have lx := dpLen allc
      refine ⟨t, _, rfl, SqT.of ht, rfl, _, _, rfl, _, _, rfl, rfl, ?_⟩
      refine ⟨_, rfl, .inl ⟨rfl, _, SqL.of hDy⟩, _, rfl, ca, cx, rfl, (sG.trans sH).seq hqc, fun D2 nD2 => ?_⟩
      have D2D : D2 ≠ D := fun z => by rw [z, hDy] at nD2; cases nD2
      refine lc_it (walk_enum (xs := cx)) (fun j H3 => Same H' H3 ∧ MkL (fun hp y d => Inn K (3 * n + 1) G H (hide hp D) y d) D2 (cs.take j) H3) ⟨same_upd nD2, MkL.start⟩ (fun j H3 _ e => ((sG.trans sH).trans e.1).seq hqc) (fun j x H3 H2' hj e y => ?_) (fun H4 e => ?_)
      · obtain ⟨s4, mk4⟩ := e
        obtain ⟨T, x1, x2, rfl, nT, rfl, h1, hx2⟩ := y
        obtain ⟨d, hdj, dp⟩ := dpAt' allc hx2
        obtain ⟨ys4, hD4, _⟩ := id mk4
        have hD5 := s4 _ _ hDy
        have sT := same_upd (o := .tup [x1, x2]) nT
        refine ⟨T, _, rfl, SqT.of upd_same, rfl, _, _, rfl, _, _, rfl, rfl, rfl, ?_⟩
        refine ⟨_, rfl, _, rfl, (by decide : 1 ≤ sizeLine), fun p np => ⟨pa, p, zs1, _, rfl, rfl, same_upd np _ _ (sT _ _ (s4 _ _ (hide_same _ _ hpa))), upd_same, ?_, fun q nq => ⟨_, rfl, (by decide : 2 ≤ sizeLine), fun t3 nt => ?_⟩⟩⟩
        · show zs1.length + 1 ≤ sizeLine
          rw [sizeLine_eq]
          omega
        have sp := same_upd (o := .lst [x1]) np
        have sq := same_upd (o := .lst (zs1 ++ [x1])) nq
        have st := same_upd (o := .tup [.ref q, x2]) nt
        have aA := ((sT.trans sp).trans sq).trans st
        have sB := sH.trans s4
        have qD' : q ≠ D := fun z => by rw [z, sp _ _ (sT _ _ hD5)] at nq; cases nq
        have qD2 : q ≠ D2 := fun z => by rw [z, sp _ _ (sT _ _ hD4)] at nq; cases nq
        have tD : t3 ≠ D := fun z => by rw [z, sq _ _ (sp _ _ (sT _ _ hD5))] at nt; cases nt
        have tD2 : t3 ≠ D2 := fun z => by rw [z, sq _ _ (sp _ _ (sT _ _ hD4))] at nt; cases nt
        have lt := List.length_take_le j cs
        have lt2 := List.length_take_le' j cs
        obtain ⟨ys1, f1, f2, f3⟩ := (mk4.same Inn.monoD aA).add Inn.monoD (u := .ref t3) (a := d) ⟨t3, q, x2, rfl, (sB.trans ((sT.trans sp).trans sq)).free nt, hide_ne (hide_ne upd_same tD2) tD, (sB.trans (sT.trans sp)).free nq, ⟨_, hide_ne (hide_ne (st _ _ upd_same) qD2) qD', by rw [List.length_append]; show zs1.length + 1 ≤ _; omega⟩, dp⟩ (by rw [sizeLine_eq]; omega)
        exact ⟨ys1, f1, f2, same_upd2 (s4.trans aA) nD2, by rw [take_snoc hdj]; exact f3⟩
      · obtain ⟨s4, ys, hD2', al⟩ := e
        rw [List.take_of_length_le (Nat.le_of_eq lx.symm)] at al
        obtain ⟨ys1, f1, f2, f3⟩ := (mk.same Inn.mono s4).ext Inn.mono (zs := ys) (bs := cs) (al.imp fun _ _ r => r.same (Same.refl H) (hide_mono hide_same) (Nat.le_refl _)) (line tot)
        refine ⟨D, D2, ys1, ys, rfl, rfl, f1, hD2', f2, ⟨_, _, _, _, rfl⟩, same_upd2 (sH.trans s4) nD, sh.trans ((hide_mono s4).trans hide_upd), ?_⟩
        rw [take_snoc hdi, List.flatMap_append, List.flatMap_singleton]
        exact f3
    · obtain ⟨⟨s1, s3, s4, s5, rfl⟩, sH, sh, mk⟩ := e
      have lx := aI0.len
      rw [List.take_of_length_le (Nat.le_of_eq lx.symm)] at mk
      obtain ⟨ys, hD, al⟩ := mk
      exact ⟨_, rfl, k _ D ys sH nD hD (al.imp fun _ _ r => r.same (Same.refl H) hide_same (Nat.le_refl _))⟩
end
end Qb
end PySem
namespace PySem
namespace Qb
open PySem.W PySem.Calls PyProof.Rows L2
/-! # the first command that is wrong -/
theorem same_self {H : Hp} {D : Addr} {o : HO} (h : H D = some o) : Same H (L2.upd H D o) := fun b u e => by
  by_cases q : b = D
  · subst q
    rw [upd_same, ← e, h]
  · rw [upd_ne q]
    exact e
/-- a part that is the word a -/
def WI (K : Frag) (H : Hp) (y : V) : Prop := ∃ t p z, y = .ref t ∧ SqT K H t [.ref p, .str "word", z] ∧ Dp K H z (.list aW)
theorem WI.same {K : Frag} {H H' : Hp} {y : V} (h : WI K H y) (s : Same H H') : WI K H' y := by
  obtain ⟨t, p, z, e, q, d⟩ := h
  exact ⟨t, p, z, e, sqT_same s q, dp_same s d⟩
def spAa (K : Frag) : Sp := fun vs H Q _ => ∃ pa v b zs, vs = [.ref pa, .str "word", v] ∧ H pa = some (.lst zs) ∧ zs.length ≤ 5 ∧ Dp K H v (.list (cmdW b)) ∧ ∀ H' r xs, Same H H' → H' r = some (.lst xs) → xs.length ≤ 1 → (∀ x ∈ xs, WI K H' x) → Q (.ref r) H'
def spTw (K : Frag) : Sp := fun vs H Q _ => ∃ i v, vs = [i, v] ∧ Dp K H v (.list []) ∧ ∀ H' r, Same H H' → H' r = some (.lst []) → Q (.ref r) H'
def spPo (K : Frag) : Sp := fun vs H Q _ => ∃ v b, vs = [v] ∧ Dp K H v (cmdD b) ∧ ∀ H' r xs, Same H H' → H' r = some (.lst xs) → xs.length ≤ 1 → (∀ x ∈ xs, WI K H' x) → Q (.ref r) H'
def spCin (K : Frag) : Sp := fun vs H Q _ => ∃ v b, vs = [v] ∧ Dp K H v (cmdD b) ∧ ∀ H' r, Same H H' → H' r = some (.lst []) → Q (.ref r) H'
def Ent (K : Frag) (H : Hp) (v : V) (e : Bool × Bool) : Prop := ∃ t pa x, v = .ref t ∧ SqT K H t [.bl e.1, .ref pa, x] ∧ Dp K H x (cmdD e.2)
def CmdIn (K : Frag) (H : Hp) (v : V) (b : Bool) : Prop := ∃ t pa x, v = .ref t ∧ SqT K H t [.ref pa, x] ∧ Dp K H x (cmdD b)
theorem Ent.same {K : Frag} {H H' : Hp} {v : V} {e : Bool × Bool} (h : Ent K H v e) (s : Same H H') : Ent K H' v e := by
  obtain ⟨t, pa, x, e1, h1, h2⟩ := h
  exact ⟨t, pa, x, e1, sqT_same s h1, dp_same s h2⟩
theorem Ent.mono {K : Frag} : ∀ (H1 H2 : Hp) (y : V) (a : Bool × Bool), Same H1 H2 → Ent K H1 y a → Ent K H2 y a := fun _ _ _ _ s r => r.same s
def wt1 (e : Bool × Bool) : Nat := if e.1 = true then 1 else 2
def wts : List (Bool × Bool) → Nat
  | [] => 0
  | e :: r => wt1 e + wts r
theorem wts_app (l m : List (Bool × Bool)) : wts (l ++ m) = wts l + wts m := by
  induction l with
  | nil => exact (Nat.zero_add _).symm
  | cons e l ih =>
    show wt1 e + wts (l ++ m) = wt1 e + wts l + wts m
    rw [ih, Nat.add_assoc]
theorem wts_len (l : List (Bool × Bool)) : l.length ≤ wts l := by
  induction l with
  | nil => exact Nat.le_refl _
  | cons e l ih =>
    have h : 1 ≤ wt1 e := by
      unfold wt1
      split <;> omega
    show l.length + 1 ≤ wt1 e + wts l
    omega
theorem wts_f (l : List Bool) : wts (l.map fun b => (false, b)) = 2 * l.length := by
  induction l with
  | nil => rfl
  | cons b l ih =>
    show 2 + wts (l.map fun b => (false, b)) = 2 * (l.length + 1)
    omega
theorem All2.last {α β : Type} {R : α → β → Prop} : ∀ {as : List α} {bs : List β}, All2 R as bs → as ≠ [] → ∃ as' a bs' b, as = as' ++ [a] ∧ bs = bs' ++ [b] ∧ All2 R as' bs' ∧ R a b
  | _, _, .nil, ne => absurd rfl ne
  | _, _, .cons (as := []) h .nil, _ => ⟨[], _, [], _, rfl, rfl, .nil, h⟩
  | _, _, .cons (as := _ :: _) h t, _ => by
    obtain ⟨as', a, bs', b, e1, e2, t', h'⟩ := t.last (by simp)
    exact ⟨_ :: as', a, _ :: bs', b, by rw [e1]; rfl, by rw [e2]; rfl, .cons h t', h'⟩
def spFwi (K : Frag) : Sp := fun vs H Q _ => ∃ (r : Addr) (xs : List V) (bs : List Bool), vs = [.ref r] ∧ H r = some (.lst xs) ∧ All2 (CmdIn K H) xs bs ∧ bs.length ≤ 5000 ∧ ∀ H' u, Same H H' → decide (u = V.non) = bs.all id → Q u H'
section
variable {P : Program} {w : World} {K : Frag} {mg : Str → Option Value} {base : Heap}
abbrev sAa : Stmt := top 53
abbrev nAa : List Str := ["path", "kind", "parts", "at", "part"]
theorem scAa : FnScope nAa ["path", "kind", "parts"] (defScope sAa) := ⟨rfl, rfl, rfl, by decide +kernel, rfl, by decide +kernel, by decide +kernel⟩
theorem has_Aa {f : Addr} {fd : FuncData}  (F : Fun K "all_at" "all_at" sAa f fd) (g : mg "all_at" = some (.ref f)) (B : Blt mg)  :
    Has P w K mg base 1 "all_at" ["path", "kind", "parts"] (spAa K) := by
  refine has_of F g (F.binds (ps := ["path", "kind", "parts"]) fun _ _ _ _ _ _ us hl => match us, hl with | [_, _, _], _ => rfl) (F.ok scAa (fun vs H Q E h => ?_) (fun cdv A outer s H vs Q E hr h => ?_))
  · obtain ⟨pa, v, b, zs, rfl, _⟩ := h
    rfl
  · refine ⟨_, (pss_cons (ps_if (pt_cmpR op_isN (pv 2) pe_non (nomark _)) (pss_one ps_never) pss_nil)
        (pss_one (ps_ret (pe_lc (te := tTup (tCons (tOp rCat (tVar 0) (tLst (tCons (tVar 3) tNil))) (tCons (tVar 1) (tCons (tVar 4) tNil)))) (own := [("at", 3), ("part", 4)]) (g := gTup K 2 (gCons (gName 3) (gCons (gName 4) gNil))) (tt := tYes) rfl scAa.nd (pi_enum (by rfl) B.enumerate (pa_cons (pv 2) pa_nil)) (blkOk_by (N := nAa) (sc := defScope sAa) (by decide +kernel)) (fun _ _ _ _ _ => pg_tup rfl (pgs_cons (pg_name (i := 3) scAa.nd rfl (.inl rfl)) (pgs_cons (pg_name (i := 4) scAa.nd rfl (.inl rfl)) pgs_nil))) (fun _ _ _ _ _ => pts_nil) (fun _ _ _ _ _ => (pe_tup (pa_cons (pe_op op_cat (pv 0) (pe_lst (pa_cons (pv 3) pa_nil))) (pa_cons (pv 1) (pa_cons (pv 4) pa_nil))))))))), ?_⟩
    obtain ⟨pa, v, b, zs, rfl, hp, lz, hd, k⟩ := h
    obtain ⟨a, xs, rfl, hq, all⟩ := dp_lst hd
    have lx := dpLen all
    have lb : (cmdW b).length ≤ 1 := by cases b <;> decide
    refine ⟨_, rfl, rfl, _, rfl, if_no rfl ?_⟩
    refine ⟨_, rfl, a, xs, rfl, hq, fun D hD => lc_it (walk_enum (xs := xs)) (fun i H' => Same H H' ∧ ∃ ys, H' D = some (.lst ys) ∧ ys.length = i ∧ ∀ y ∈ ys, WI K (hide H' D) y) ⟨same_upd hD, [], upd_same, rfl, fun y m => by cases m⟩ (fun i H' _ e => e.1.seq hq) (fun i x H' H2 hi e y => ?_) (fun H' e => ?_)⟩
    · obtain ⟨s1, ys, hDy, ly, ay⟩ := e
      obtain ⟨T, x1, x2, rfl, nT, rfl, h1, hx⟩ := y
      have h1 : some (V.int (i : Nat)) = some x1 := h1
      obtain rfl := Option.some.inj h1
      obtain ⟨d, hdi, dp⟩ := dpAt' all hx
      have ed : d = .list aW := by
        cases b with
        | false => cases hdi
        | true => exact List.mem_singleton.mp (List.mem_of_getElem? hdi)
      subst ed
      have sT := same_upd (o := .tup [.int (i : Nat), x2]) nT
      refine ⟨T, _, rfl, SqT.of upd_same, rfl, _, _, rfl, _, _, rfl, rfl, rfl, ?_⟩
      refine ⟨_, rfl, _, rfl, (by decide : 1 ≤ sizeLine), fun p np => ⟨pa, p, zs, _, rfl, rfl, ?_, upd_same, ?_, fun q nq => ⟨_, rfl, _, rfl, (by decide : 3 ≤ sizeLine), fun t nt => ?_⟩⟩⟩
      · exact same_upd np _ _ (sT _ _ (s1 _ _ hp))
      · show zs.length + 1 ≤ sizeLine
        rw [sizeLine_eq]
        omega
      · have sA := ((sT.trans (same_upd (o := .lst [.int (i : Nat)]) np)).trans (same_upd (o := .lst (zs ++ [.int (i : Nat)])) nq)).trans (same_upd (o := .tup [.ref q, .str "word", x2]) nt)
        have sD := sA _ _ hDy
        have sX := (hide_mono (W := D) sA).trans (hide_upd (o := .lst (ys ++ [V.ref t])))
        have tD : t ≠ D := fun z => by
          have e1 := ((sT.trans (same_upd (o := .lst [.int (i : Nat)]) np)).trans (same_upd (o := .lst (zs ++ [.int (i : Nat)])) nq)) _ _ hDy
          rw [z, e1] at nt
          cases nt
        refine ⟨ys, sD, by rw [ly, sizeLine_eq]; omega, same_upd2 (s1.trans sA) hD, _, upd_same, by rw [List.length_append, ly]; rfl, fun y m => ?_⟩
        rcases List.mem_append.mp m with m | m
        · exact (ay y m).same sX
        · rw [List.mem_singleton.mp m]
          refine ⟨t, q, x2, rfl, SqT.of (hide_ne (by rw [upd_ne tD]; exact upd_same) tD), dp_same ((hide_of s1 hD).trans sX) dp⟩
    · obtain ⟨s1, ys, hDy, ly, ay⟩ := e
      exact k H' D ys s1 hDy (by omega) (fun y m => (ay y m).same hide_same)
abbrev sTw : Stmt := top 54
abbrev nTw : List Str := ["index", "turns", "at", "turn"]
theorem scTw : FnScope nTw ["index", "turns"] (defScope sTw) := ⟨rfl, rfl, rfl, by decide +kernel, rfl, by decide +kernel, by decide +kernel⟩
theorem has_Tw {f : Addr} {fd : FuncData}  (F : Fun K "turn_words" "turn_words" sTw f fd) (g : mg "turn_words" = some (.ref f)) (B : Blt mg)  :
    Has P w K mg base 1 "turn_words" ["index", "turns"] (spTw K) := by
  refine has_of F g (F.binds (ps := ["index", "turns"]) fun _ _ _ _ _ _ us hl => match us, hl with | [_, _], _ => rfl) (F.ok scTw (fun vs H Q E h => ?_) (fun cdv A outer s H vs Q E hr h => ?_))
  · obtain ⟨i, v, rfl, _⟩ := h
    rfl
  · refine ⟨_, (pss_one (ps_ret (pe_lc (own := [("at", 2), ("turn", 3)]) (g := gTup K 2 (gCons (gName 2) (gCons (gName 3) gNil))) (tt := tYes) rfl scTw.nd (pi_enum (by rfl) B.enumerate (pa_cons (pv 1) pa_nil)) (blkOk_by (N := nTw) (sc := defScope sTw) (by decide +kernel)) (fun _ _ _ _ _ => pg_tup rfl (pgs_cons (pg_name (i := 2) scTw.nd rfl (.inl rfl)) (pgs_cons (pg_name (i := 3) scTw.nd rfl (.inl rfl)) pgs_nil))) (fun _ _ _ _ _ => pts_nil) (fun _ _ _ _ _ => pe_no)))), ?_⟩
    obtain ⟨i, v, rfl, hd, k⟩ := h
    obtain ⟨a, xs, rfl, hq, all⟩ := dp_lst hd
    cases all
    exact ⟨_, rfl, a, [], rfl, hq, fun D hD => lc_it (walk_enum (xs := [])) (fun i H' => H' = L2.upd H D (.lst [])) rfl (fun i H' _ e => by subst e; exact (same_upd hD).seq hq) (fun i x H' H2 hi => absurd hi (by simp)) (fun H' e => by
      subst e
      exact k _ D (same_upd hD) upd_same)⟩
abbrev sPo : Stmt := top 51
abbrev nPo : List Str := ["command", "sets", "words", "turns", "set_words", "at", "pair", "body", "commands", "one", "other"]
theorem scPo : FnScope nPo ["command"] (defScope sPo) := ⟨rfl, rfl, rfl, by decide +kernel, rfl, by decide +kernel, by decide +kernel⟩
theorem has_Po {f : Addr} {fd : FuncData}  (F : Fun K "parts_of" "parts_of" sPo f fd) (g : mg "parts_of" = some (.ref f)) (B : Blt mg) (hAa : Has P w K mg base 1 "all_at" ["path", "kind", "parts"] (spAa K)) (hTw : Has P w K mg base 1 "turn_words" ["index", "turns"] (spTw K)) :
    Has P w K mg base 3 "parts_of" ["command"] (spPo K) := by
  obtain ⟨fAa, dAa, gAa, kAa, bAa, GAa⟩ := hAa
  obtain ⟨fTw, dTw, gTw, kTw, bTw, GTw⟩ := hTw
  refine has_of F g (F.binds (ps := ["command"]) fun _ _ _ _ _ _ us hl => match us, hl with | [_], _ => rfl) (F.ok scPo (fun vs H Q E h => ?_) (fun cdv A outer s H vs Q E hr h => ?_))
  · obtain ⟨v, b, rfl, _⟩ := h
    rfl
  · refine ⟨_, (pss_cons (ps_match (pv 0)
        (pcs_cons (is := [1, 2, 3]) scPo.nd (pp_seq rfl (pps_cons pp_lit (pps_cons pp_cap (pps_cons pp_cap (pps_cons pp_cap pps_nil))))) (.cons ⟨rfl, .inl rfl, .inr rfl⟩ (.cons ⟨rfl, .inl rfl, .inr rfl⟩ (.cons ⟨rfl, .inl rfl, .inr rfl⟩ .nil)))
          (pss_cons (ps_setLc (i := 4) (own := [("at", 5), ("pair", 6)]) (g := gTup K 2 (gCons (gName 5) (gCons (gName 6) gNil))) (tt := tYes) rfl scPo.nd rfl rfl (sw_true rfl rfl rfl (by decide +kernel)) (pi_enum (by rfl) B.enumerate (pa_cons (pv 1) pa_nil)) (blkOk_by (N := nPo) (sc := defScope sPo) (by decide +kernel)) (fun _ _ _ _ _ => pg_tup rfl (pgs_cons (pg_name (i := 5) scPo.nd rfl (.inl rfl)) (pgs_cons (pg_name (i := 6) scPo.nd rfl (.inl rfl)) pgs_nil))) (fun _ _ _ _ _ => pts_nil) (fun _ _ _ _ _ => pe_no))
          (pss_one (ps_ret (pe_op op_cat (pe_op op_cat (pv 4) (pe_call GAa (hr.mono (by decide)) rfl gAa kAa bAa .nil pass0 (pa_cons (pe_lst (pa_cons pe_int pa_nil)) (pa_cons pe_str (pa_cons (pv 2) pa_nil))))) (pe_call GTw (hr.mono (by decide)) rfl gTw kTw bTw .nil pass0 (pa_cons pe_int (pa_cons (pv 3) pa_nil)))))))
        pcs_never)) pss_never), ?_⟩
    obtain ⟨v, b, rfl, hd, k⟩ := h
    obtain ⟨a, x, y, z, rfl, hq, h1, h2, h3⟩ := pc_four hd
    refine ⟨_, rfl, case_hit hq hit_lit ?_⟩
    obtain ⟨c, xs, rfl, hqb, all⟩ := dp_lst h1
    cases all
    refine ⟨_, rfl, c, [], rfl, hqb, fun D hD => lc_it (walk_enum (xs := [])) (fun i H' => H' = L2.upd H D (.lst [])) rfl (fun i H' _ e => by subst e; exact (same_upd hD).seq hqb) (fun i x H' H2 hi => absurd hi (by simp)) (fun H' e => ?_)⟩
    subst e
    have s1 := same_upd (o := .lst []) hD
    have hD1 := upd_same (H := H) (a := D) (o := .lst [])
    generalize L2.upd H D (.lst []) = H1 at s1 hD1 ⊢
    refine ⟨_, rfl, (by decide : 1 ≤ sizeLine), fun p np => ?_⟩
    have sp := same_upd (o := .lst [.int 2]) np
    refine ⟨_, rfl, p, y, b, _, rfl, upd_same, by decide, dp_same (s1.trans sp) h2, fun H2 r xs s2 hr lx wx => ?_⟩
    have sB := sp.trans s2
    refine ⟨D, r, [], xs, rfl, rfl, sB _ _ hD1, hr, ?_, fun q nq => ?_⟩
    · show 0 + xs.length ≤ _
      rw [sizeLine_eq]
      omega
    have sq := same_upd (o := .lst ([] ++ xs)) nq
    refine ⟨_, rfl, .int 3, z, rfl, dp_same ((s1.trans sB).trans sq) h3, fun H3 r3 s3 hr3 => ⟨q, r3, [] ++ xs, [], rfl, rfl, s3 _ _ upd_same, hr3, ?_, fun g ng => ?_⟩⟩
    · show xs.length + 0 ≤ _
      rw [sizeLine_eq]
      omega
    have sg := same_upd (o := .lst ([] ++ xs ++ [])) ng
    refine k _ g _ ((s1.trans sB).trans ((sq.trans s3).trans sg)) upd_same ?_ ?_
    · rw [List.append_nil]
      exact lx
    · rw [List.append_nil]
      exact fun u m => (wx u m).same ((sq.trans s3).trans (by rw [List.append_nil] at sg; exact sg))
abbrev sCin : Stmt := top 59
abbrev nCin : List Str := ["command", "found", "path", "kind", "part", "way", "inner"]
theorem scCin : FnScope nCin ["command"] (defScope sCin) := ⟨rfl, rfl, rfl, by decide +kernel, rfl, by decide +kernel, by decide +kernel⟩
theorem has_Cin {f : Addr} {fd : FuncData}  (F : Fun K "commands_within" "commands_within" sCin f fd) (g : mg "commands_within" = some (.ref f)) (B : Blt mg) (hPo : Has P w K mg base 3 "parts_of" ["command"] (spPo K)) (hCiw : Has P w K mg base 3 "commands_in_word" ["word"] (spCiw K CRo 1)) :
    Has P w K mg base 4 "commands_within" ["command"] (spCin K) := by
  obtain ⟨fPo, dPo, gPo, kPo, bPo, GPo⟩ := hPo
  obtain ⟨fCiw, dCiw, gCiw, kCiw, bCiw, GCiw⟩ := hCiw
  refine has_of F g (F.binds (ps := ["command"]) fun _ _ _ _ _ _ us hl => match us, hl with | [_], _ => rfl) (F.ok scCin (fun vs H Q E h => ?_) (fun cdv A outer s H vs Q E hr h => ?_))
  · obtain ⟨v, b, rfl, _⟩ := h
    rfl
  · refine ⟨_, (pss_cons (ps_set (i := 1) scCin.nd rfl (.inl rfl) (pe_lst pa_nil))
        (pss_cons (ps_for PassesOwn.never rfl (pi_list (pe_call GPo hr rfl gPo kPo bPo .nil pass0 (pa_cons (pv 0) pa_nil))) (pg_tup rfl (pgs_cons (pg_name (i := 2) scCin.nd rfl (.inr rfl)) (pgs_cons (pg_name (i := 3) scCin.nd rfl (.inl rfl)) (pgs_cons (pg_name (i := 4) scCin.nd rfl (.inl rfl)) pgs_nil))))
          (pss_one (ps_if (pt_cmpR op_eq (pv 3) pe_str (nomark _)) (pss_one ps_never) (pss_one (ps_expr (pe_bm PySem.F.plainAttrs_list PySem.F.slot_list_extend PySem.F.type_list_extend mt_extend (pv 1) (pa_cons (pe_lc (own := [("way", 5), ("inner", 6)]) (g := gTup K 2 (gCons (gName 5) (gCons (gName 6) gNil))) (tt := tYes) rfl scCin.nd (pi_list (pe_call GCiw hr rfl gCiw kCiw bCiw .nil pass0 (pa_cons (pv 4) pa_nil))) (blkOk_by (N := nCin) (sc := defScope sCin) (by decide +kernel)) (fun _ _ _ _ _ => pg_tup rfl (pgs_cons (pg_name (i := 5) scCin.nd rfl (.inl rfl)) (pgs_cons (pg_name (i := 6) scCin.nd rfl (.inl rfl)) pgs_nil))) (fun _ _ _ _ _ => pts_nil) (fun _ _ _ _ _ => pe_no)) pa_nil)))))))
        (pss_one (ps_ret (pv 1))))), ?_⟩
    obtain ⟨v, b, rfl, hd, k⟩ := h
    refine ⟨(by decide : 0 ≤ sizeLine), fun D nD => ?_⟩
    have qD := same_upd (o := .lst []) nD
    refine ⟨_, rfl, v, b, rfl, dp_same qD hd, fun H2 r xs s2 hr2 l1 wx => ?_⟩
    have hD2 := s2 _ _ (upd_same (H := H) (a := D) (o := .lst []))
    refine ⟨r, rfl, ⟨_, SqL.of hr2⟩, for_it (walk_list (xs := xs)) (fun i σ H' => (∃ b c d e f, σ = [some v, some (.ref D), b, c, d, e, f]) ∧ Same H2 H' ∧ H' D = some (.lst []))
      ⟨⟨_, _, _, _, _, rfl⟩, Same.refl _, hD2⟩ (fun i σ H' _ e => SqL.of (e.2.1 _ _ hr2)) (fun i x σ Ha H' hi e y => ?_) (fun σ H' e => ?_)⟩
    · obtain ⟨⟨s1, s3, s4, s5, s6, rfl⟩, sH, hDy⟩ := e
      obtain ⟨rfl, hx⟩ := y
      obtain ⟨t, p, z, rfl, hq, hz⟩ := wx x (List.mem_of_getElem? hx)
      refine ⟨t, _, rfl, sqT_same sH hq, rfl, _, _, rfl, _, _, rfl, _, _, rfl, rfl, ?_⟩
      refine ⟨_, rfl, rfl, _, rfl, if_no (by decide +kernel) ⟨_, rfl, .inl ⟨rfl, _, SqL.of hDy⟩, _, rfl, H', z, aW, false, true, true, rfl, Same.refl _, dp_same sH hz, aW_rel, by decide +kernel, by decide +kernel, fun H4 r4 zs s4 fr4 hr4 al4 => ?_⟩⟩
      have e0 : zs = [] := List.length_eq_zero_iff.mp (by rw [al4.len]; decide +kernel)
      subst e0
      refine ⟨r4, rfl, ⟨_, SqL.of hr4⟩, fun D2 nD2 => lc_it (walk_list (xs := [])) (fun i H' => H' = L2.upd H4 D2 (.lst [])) rfl (fun i H' _ e => by subst e; exact (same_upd nD2).seq (SqL.of hr4)) (fun i x H' H2 hi => absurd hi (by simp)) (fun H5 e => ?_)⟩
      subst e
      have sA := s4.trans (same_upd (o := .lst []) nD2)
      have hD5 := sA _ _ hDy
      refine ⟨D, D2, [], [], rfl, rfl, hD5, upd_same, by decide, ⟨_, _, _, _, _, rfl⟩, (sH.trans sA).trans (same_self hD5), upd_same⟩
    · obtain ⟨⟨s1, s3, s4, s5, s6, rfl⟩, sH, hDy⟩ := e
      exact ⟨_, rfl, k _ D ((qD.trans s2).trans sH) hDy⟩
abbrev sFwi : Stmt := top 62
abbrev nFwi : List Str := ["commands", "waiting", "path", "command", "looked_within", "within", "way", "inner"]
theorem scFwi : FnScope nFwi ["commands"] (defScope sFwi) := ⟨rfl, rfl, rfl, by decide +kernel, rfl, by decide +kernel, by decide +kernel⟩
theorem has_Fwi {f : Addr} {fd : FuncData}  (F : Fun K "first_wrong_in" "first_wrong_in" sFwi f fd) (g : mg "first_wrong_in" = some (.ref f)) (B : Blt mg) (hCm : Has P w K mg base 28 "is_command" ["command"] (spCm K)) (hCin : Has P w K mg base 4 "commands_within" ["command"] (spCin K)) :
    Has P w K mg base 29 "first_wrong_in" ["commands"] (spFwi K) := by
  obtain ⟨fCm, dCm, gCm, kCm, bCm, GCm⟩ := hCm
  obtain ⟨fCin, dCin, gCin, kCin, bCin, GCin⟩ := hCin
  refine has_of F g (F.binds (ps := ["commands"]) fun _ _ _ _ _ _ us hl => match us, hl with | [_], _ => rfl) (F.ok scFwi (fun vs H Q E h => ?_) (fun cdv A outer s H vs Q E hr h => ?_))
  · obtain ⟨r, xs, bs, rfl, _⟩ := h
    rfl
  · refine ⟨_, (pss_cons (ps_setLc (i := 1) (te := tTup (tCons (tC (.bl false)) (tCons (tVar 2) (tCons (tVar 3) tNil)))) (own := [("path", 2), ("command", 3)]) (g := gTup K 2 (gCons (gName 2) (gCons (gName 3) gNil))) (tt := tYes) rfl scFwi.nd rfl rfl (sw_true rfl rfl rfl (by decide +kernel)) (pi_reversed (by rfl) B.reversed (pa_cons (pv 0) pa_nil)) (blkOk_by (N := nFwi) (sc := defScope sFwi) (by decide +kernel)) (fun _ _ _ _ _ => pg_tup rfl (pgs_cons (pg_name (i := 2) scFwi.nd rfl (.inl rfl)) (pgs_cons (pg_name (i := 3) scFwi.nd rfl (.inl rfl)) pgs_nil))) (fun _ _ _ _ _ => pts_nil) (fun _ _ _ _ _ => (pe_tup (pa_cons pe_bl (pa_cons (pv 2) (pa_cons (pv 3) pa_nil))))))
        (pss_cons (ps_while PassesOwn.never (pt_truth (pv 1) (by intro _; rfl)) (pss_cons (ps_asg (pe_bm0 PySem.F.plainAttrs_list PySem.F.slot_list_pop PySem.F.type_list_pop mt_pop (pv 1)) (pg_tup rfl (pgs_cons (pg_name (i := 4) scFwi.nd rfl (.inl rfl)) (pgs_cons (pg_name (i := 2) scFwi.nd rfl (.inr rfl)) (pgs_cons (pg_name (i := 3) scFwi.nd rfl (.inl rfl)) pgs_nil)))))
          (pss_one (ps_if (pt_val (pv 4)) (pss_one (ps_if (pt_not (pt_val (pe_call GCm (hr.mono (by decide)) rfl gCm kCm bCm .nil pass0 (pa_cons (pv 3) pa_nil)))) (pss_one (ps_ret (pv 2))) pss_nil)) (pss_cons (ps_expr (pe_bm PySem.F.plainAttrs_list PySem.F.slot_list_append PySem.F.type_list_append mt_append (pv 1) (pa_cons (pe_tup (pa_cons pe_bl (pa_cons (pv 2) (pa_cons (pv 3) pa_nil)))) pa_nil)))
            (pss_cons (ps_set (i := 5) scFwi.nd rfl (.inl rfl) (pe_call GCin (hr.mono (by decide)) rfl gCin kCin bCin .nil pass0 (pa_cons (pv 3) pa_nil)))
            (pss_one (ps_expr (pe_bm PySem.F.plainAttrs_list PySem.F.slot_list_extend PySem.F.type_list_extend mt_extend (pv 1) (pa_cons (pe_lc (own := [("way", 6), ("inner", 7)]) (g := gTup K 2 (gCons (gName 6) (gCons (gName 7) gNil))) (tt := tYes) rfl scFwi.nd (pi_reversed (by rfl) B.reversed (pa_cons (pv 5) pa_nil)) (blkOk_by (N := nFwi) (sc := defScope sFwi) (by decide +kernel)) (fun _ _ _ _ _ => pg_tup rfl (pgs_cons (pg_name (i := 6) scFwi.nd rfl (.inl rfl)) (pgs_cons (pg_name (i := 7) scFwi.nd rfl (.inl rfl)) pgs_nil))) (fun _ _ _ _ _ => pts_nil) (fun _ _ _ _ _ => pe_no)) pa_nil))))))))))
        (pss_one (ps_ret pe_non)))), ?_⟩
    obtain ⟨r, xs, bs, rfl, hq, ac, lc, k⟩ := h
    have hl := ac.len
    refine ⟨_, rfl, r, xs, rfl, SqL.of hq, fun D hD => lc_it (walk_rev (xs := xs)) (fun i H' => Same H H' ∧ MkL (Ent K) D ((bs.reverse.take i).map fun b => (false, b)) H') ⟨same_upd hD, MkL.start⟩ (fun i H' _ e => e.1.seq (SqL.of hq)) (fun i x H' H2 hi e y => ?_) (fun H' e => ?_)⟩
    · obtain ⟨s1, mk⟩ := e
      obtain ⟨rfl, hx⟩ := y
      obtain ⟨b, hb, t, pa, z, rfl, h1, h2⟩ := ac.at hx
      have hbr : bs.reverse[i]? = some b := by
        rw [List.getElem?_reverse (by omega), ← hl]
        exact hb
      obtain ⟨ys0, hDy, _⟩ := id mk
      refine ⟨t, _, rfl, sqT_same s1 h1, rfl, _, _, rfl, _, _, rfl, rfl, rfl, ?_⟩
      refine ⟨_, rfl, _, rfl, (by decide : 3 ≤ sizeLine), fun T nT => ?_⟩
      have sT := same_upd (o := .tup [.bl false, .ref pa, z]) nT
      have TD : T ≠ D := fun z => by
        rw [z, hDy] at nT
        cases nT
      have lt := List.length_take_le i bs.reverse
      have lt2 := List.length_take_le' i bs.reverse
      rw [List.length_reverse] at lt2
      obtain ⟨ys1, f1, f2, f3⟩ := (mk.same Ent.mono sT).add Ent.mono (u := .ref T) (a := (false, b)) ⟨T, pa, z, rfl, SqT.of (hide_ne upd_same TD), dp_same ((hide_of s1 hD).trans (hide_mono sT)) h2⟩ (by rw [List.length_map, sizeLine_eq]; omega)
      refine ⟨ys1, f1, f2, same_upd2 (s1.trans sT) hD, ?_⟩
      rw [take_snoc hbr, List.map_append]
      exact f3
    · obtain ⟨s1, mk⟩ := e
      rw [List.take_of_length_le (by rw [List.length_reverse]; omega)] at mk
      refine ⟨fun m σ H' => ∃ st, wts st = m ∧ m ≤ 10000 ∧ (∃ a b c d e f, σ = [some (.ref r), some (.ref D), a, b, c, d, e, f]) ∧ Same H H' ∧ MkL (Ent K) D st H' ∧ (st.all fun e => e.2) = bs.all id,
        ⟨_, (bs.reverse.map fun b => (false, b)), rfl, ?_, ⟨_, _, _, _, _, _, rfl⟩, s1, mk, ?_⟩, ?_⟩
      · rw [wts_f, List.length_reverse]
        omega
      · rw [List.all_map, List.all_reverse]
        rfl
      · rintro m σ H2 ⟨st, rfl, hm, ⟨v1, v2, v3, v4, v5, v6, rfl⟩, s2, ⟨ws, hW, aw⟩, hB⟩
        refine ⟨_, rfl, !ws.isEmpty, .inl ⟨ws, SqL.of hW, rfl⟩, if_by (fun e => ?_) (fun e => ?_)⟩
        · have ne : ws ≠ [] := fun z => by
            rw [z] at e
            cases e
          obtain ⟨ws', y, st', en, rfl, rfl, aw', hy⟩ := aw.last ne
          obtain ⟨t, pa, x, rfl, h1, h3⟩ := hy
          rw [wts_app] at hm
          have lw := wts_len st'
          have lw' := aw'.len
          refine ⟨_, fun σ' H' h => h, ?_⟩
          have hlast : (ws' ++ [V.ref t])[(ws' ++ [V.ref t]).length - 1]? = some (V.ref t) := by simp
          have sP := hide_upd (H := H2) (W := D) (o := .lst ((ws' ++ [V.ref t]).dropLast))
          have e0 : (ws' ++ [V.ref t]).dropLast = ws' := by simp
          have sQ : Same (hide H2 D) (L2.upd H2 D (.lst ((ws' ++ [V.ref t]).dropLast))) := sP.trans hide_same
          refine ⟨_, rfl, .inl ⟨rfl, _, SqL.of hW⟩, D, _, _, rfl, rfl, hW, hlast, t, _, rfl, sqT_same sQ h1, rfl, _, _, rfl, _, _, rfl, _, _, rfl, rfl, ?_⟩
          rw [e0] at sP sQ ⊢
          have s3 : Same H (L2.upd H2 D (.lst ws')) := same_upd2 s2 hD
          have hD3 : (L2.upd H2 D (.lst ws')) D = some (.lst ws') := upd_same
          have aw3 : All2 (Ent K (hide (L2.upd H2 D (.lst ws')) D)) ws' st' := aw'.imp fun _ _ h => h.same sP
          generalize L2.upd H2 D (.lst ws') = H3 at sP sQ s3 hD3 aw3 ⊢
          obtain ⟨fl, b⟩ := en
          cases fl with
          | true =>
            refine ⟨_, rfl, true, rfl, if_yes rfl ⟨_, rfl, x, b, rfl, dp_same sQ h3, fun H4 s4 => ⟨_, rfl, ?_⟩⟩⟩
            cases b with
            | false =>
              refine if_yes rfl ⟨_, rfl, k H4 _ (s3.trans s4) ?_⟩
              rw [← hB, List.all_append]
              show false = (_ && (false && true))
              rw [Bool.false_and, Bool.and_false]
            | true =>
              refine if_no rfl ⟨wts st', ?_, st', rfl, by omega, ⟨_, _, _, _, _, _, rfl⟩, s3.trans s4, ⟨ws', s4 _ _ hD3, aw3.imp fun _ _ h => h.same (hide_mono s4)⟩, ?_⟩
              · rw [wts_app]
                show wts st' < wts st' + (1 + 0)
                omega
              · rw [← hB, List.all_append]
                exact (Bool.and_true _).symm
          | false =>
            refine ⟨_, rfl, false, rfl, if_no rfl ?_⟩
            have hm : wts st' + 2 ≤ 10000 := hm
            refine ⟨_, rfl, .inl ⟨rfl, _, SqL.of hD3⟩, _, rfl, _, rfl, (by decide : 3 ≤ sizeLine), fun T nT => ?_⟩
            have sT := same_upd (o := .tup [.bl true, .ref pa, x]) nT
            have TD : T ≠ D := fun z => by
              rw [z, hD3] at nT
              cases nT
            have mk3 : MkL (Ent K) D st' H3 := ⟨ws', hD3, aw3⟩
            obtain ⟨ys1, f1, f2, f3⟩ := (mk3.same Ent.mono sT).add Ent.mono (u := .ref T) (a := (true, b)) ⟨T, pa, x, rfl, SqT.of (hide_ne upd_same TD), dp_same (sP.trans (hide_mono sT)) h3⟩ (by rw [sizeLine_eq]; omega)
            refine ⟨D, ys1, _, rfl, rfl, f1, f2, ?_⟩
            have sH4 : Same H (L2.upd (L2.upd H3 T (.tup [.bl true, .ref pa, x])) D (.lst (ys1 ++ [.ref T]))) := same_upd2 (s3.trans sT) hD
            have dx : Dp K (L2.upd (L2.upd H3 T (.tup [.bl true, .ref pa, x])) D (.lst (ys1 ++ [.ref T]))) x (cmdD b) := dp_same ((sP.trans ((hide_mono sT).trans hide_upd)).trans hide_same) h3
            generalize L2.upd (L2.upd H3 T (.tup [.bl true, .ref pa, x])) D (.lst (ys1 ++ [.ref T])) = H4 at sH4 dx f3 ⊢
            refine ⟨_, rfl, x, b, rfl, dx, fun H5 r5 s5 hr5 => ?_⟩
            obtain ⟨ys2, hD5, aw5⟩ := f3.same Ent.mono s5
            refine ⟨_, rfl, .inl ⟨rfl, _, SqL.of hD5⟩, _, rfl, r5, [], rfl, SqL.of hr5, fun D2 nD2 => lc_it (walk_rev (xs := [])) (fun i H' => H' = L2.upd H5 D2 (.lst [])) rfl (fun i H' _ e => by subst e; exact (same_upd nD2).seq (SqL.of hr5)) (fun i x H' H2 hi => absurd hi (by simp)) (fun H6 e => ?_)⟩
            subst e
            have s6 := same_upd (o := .lst []) nD2
            have hD6 := s6 _ _ hD5
            have ly := aw5.len
            rw [List.length_append] at ly
            have wn : wts (st' ++ [(true, b)]) = wts st' + 1 := by rw [wts_app]; rfl
            refine ⟨D, D2, ys2, [], rfl, rfl, hD6, upd_same, ?_, wts (st' ++ [(true, b)]), ?_, st' ++ [(true, b)], rfl, ?_, ⟨_, _, _, _, _, _, rfl⟩, same_upd2 ((sH4.trans s5).trans s6) hD, ⟨_, upd_same, ?_⟩, ?_⟩
            · show ys2.length + 0 ≤ sizeLine
              rw [ly, sizeLine_eq]
              show st'.length + 1 + 0 ≤ _
              omega
            · rw [wn, wts_app]
              show wts st' + 1 < wts st' + (2 + 0)
              omega
            · omega
            · rw [List.append_nil]
              exact aw5.imp fun _ _ h => h.same ((hide_mono s6).trans hide_upd)
            · rw [← hB, List.all_append, List.all_append]
              rfl
        · have e2 : ws = [] := by
            cases ws with
            | nil => rfl
            | cons _ _ => cases e
          subst e2
          have e3 : st = [] := List.length_eq_zero_iff.mp aw.len.symm
          subst e3
          exact k H2 .non s2 (by rw [← hB]; rfl)
end
end Qb
end PySem
namespace PySem
namespace Qb
open PySem.W PySem.Calls PyProof.Rows L2
/-! # whole words -/
theorem All2.unmap {α β γ : Type} {R : α → β → Prop} {f : γ → β} : ∀ {as : List α} {cs : List γ}, All2 R as (cs.map f) → All2 (fun a c => R a (f c)) as cs
  | [], [], _ => .nil
  | [], _ :: _, h => by cases h
  | _ :: _, [], h => by cases h
  | _ :: _, _ :: _, .cons h t => .cons h t.unmap
theorem all2_bs {cs : List PyData} {bs : List Bool} (h : All2 CRo cs bs) : cs = bs.map cmdD := by
  induction h with
  | nil => rfl
  | cons h _ ih => rw [List.map_cons, ← ih, show _ = _ from h]
def cmP (n : Nat) (p : PyData) : List PyData := (scrP (scr n) p).flatMap lstOf
theorem cms_succ (n : Nat) (ws : List PyData) : cms (n + 1) ws = ws.flatMap (cmP n) := by
  show (ws.flatMap (scrP (scr n))).flatMap lstOf = _
  rw [List.flatMap_assoc]
  rfl
theorem cmP_deep {n : Nat} {p : PyData} {w' : List PyData} (e : scrP (scr n) p = scr n w') : cmP n p = cms n w' := by
  unfold cmP cms
  rw [e]
theorem cms_rel : ∀ (n : Nat) {i : Bool} {ws : List PyData} {b r : Bool}, WsR CRo n i ws b r → ∃ bs : List Bool, cms n ws = bs.map cmdD ∧ r = bs.all id
  | 0, _, _, _, _, h => h.elim
  | n + 1, i, ws, b, r, ⟨_, ps, all, _, er⟩ => by
    have one : ∀ (p : PyData) (q : Bool × Bool), PcR CRo (WsR CRo n false) (WsR CRo n true) i p q.1 q.2 → ∃ bs : List Bool, cmP n p = bs.map cmdD ∧ q.2 = bs.all id := by
      rintro p ⟨q1, q2⟩ h
      rcases h with ⟨kk, x, rfl, hk, hx', _, rfl⟩ | ⟨w', bw, rw', rfl, hw, _, rfl⟩ | ⟨x, d, bd, rfl, hx', hd', _⟩ | ⟨t, rfl, _, _, _, _, rfl⟩ | ⟨cs, bs, rfl, hcl, hcs, _, _, rfl⟩
      · exact ⟨[], rfl, rfl⟩
      · obtain ⟨bs, e1, e2⟩ := cms_rel n hw
        exact ⟨bs, (cmP_deep (by rw [scr_two, if_neg (by decide +kernel), if_pos rfl])).trans e1, e2⟩
      · rcases hd' with ⟨rfl, _, rfl⟩ | ⟨rfl, _, rfl⟩ | ⟨kk, c, w', bw, rw', rfl, hkk, hw, _, rfl⟩ | ⟨m, w', bw, rw', rfl, _, hw, _, rfl⟩
        · exact ⟨[], rfl, rfl⟩
        · exact ⟨[], rfl, rfl⟩
        · by_cases c5 : kk ∈ dd5
          · obtain ⟨bs, e1, e2⟩ := cms_rel n hw
            have c4 : kk ∈ dd4 := by
              rcases hkk with z | rfl
              · exact z
              · exact absurd c5 (by decide +kernel)
            refine ⟨bs, (cmP_deep (by rw [scr_three, if_pos rfl, if_pos c5])).trans e1, ?_⟩
            show (!decide (kk ∈ dd4) || rw') = _
            rw [decide_eq_true c4]
            exact e2
          · have c4 : ¬ kk ∈ dd4 := fun z => c5 ((by decide +kernel : ∀ k ∈ dd4, k ∈ dd5) kk z)
            refine ⟨[], ?_, ?_⟩
            · unfold cmP
              rw [scr_three, if_pos rfl, if_neg c5]
              rfl
            · show (!decide (kk ∈ dd4) || rw') = _
              rw [decide_eq_false c4]
              rfl
        · obtain ⟨bs, e1, e2⟩ := cms_rel n hw
          exact ⟨bs, (cmP_deep (by rw [scr_three, if_pos rfl, if_pos (by decide +kernel)])).trans e1, e2⟩
      · refine ⟨[], ?_, rfl⟩
        unfold cmP
        cases ht : t.d with
        | list l => rw [scr_two, if_neg (by decide +kernel), if_neg (by decide +kernel)]; rfl
        | _ => rfl
      · refine ⟨bs, ?_, rfl⟩
        unfold cmP
        rw [scr_two, if_pos rfl]
        show cs ++ [] = _
        rw [List.append_nil]
        exact all2_bs hcs
    have many : ∀ (ws : List PyData) (ps : List (Bool × Bool)), All2 (fun p q => PcR CRo (WsR CRo n false) (WsR CRo n true) i p q.1 q.2) ws ps → ∃ bs : List Bool, ws.flatMap (cmP n) = bs.map cmdD ∧ ps.all (·.2) = bs.all id := by
      intro ws ps h
      induction h with
      | nil => exact ⟨[], rfl, rfl⟩
      | @cons p q ws ps h t ih =>
        obtain ⟨b1, e1, e2⟩ := one p q h
        obtain ⟨b2, f1, f2⟩ := ih
        refine ⟨b1 ++ b2, by rw [List.flatMap_cons, e1, f1, List.map_append], ?_⟩
        rw [List.all_cons, e2, f2, List.all_append]
    obtain ⟨bs, e1, e2⟩ := many ws ps all
    exact ⟨bs, (cms_succ n ws).trans e1, er.trans e2⟩
def spIw (K : Frag) (n : Nat) : Sp := fun vs H Q _ => ∃ (v : V) (ws : List PyData) (b r : Bool), vs = [v] ∧ Dp K H v (.list ws) ∧ SeqAt.shaped (.list ws) = true ∧ (ws = [] ∨ WsR CRo n false ws b r) ∧ (scr n ws).length ≤ 5000 ∧ (cms n ws).length ≤ 5000 ∧ ∀ H', Same H H' → Q (.bl (!ws.isEmpty && (b && r))) H'
section
variable {P : Program} {w : World} {K : Frag} {mg : Str → Option Value} {base : Heap}
theorem ok_scr {CR : PyData → Bool → Prop} {f : Addr} {fd : FuncData} (F : Fun K "scripts_in_word" "scripts_in_word" sSw f fd) (g : mg "scripts_in_word" = some (.ref f)) (B : Blt mg) : ∀ n, n ≤ 14 → Has P w K mg base (n + 1) "scripts_in_word" ["pieces"] (spSw K CR n)
  | 0, _ => by
    refine has_of F g (F.binds (ps := ["pieces"]) fun _ _ _ _ _ _ us hl => match us, hl with | [_], _ => rfl) (F.ok scSw (fun vs H Q E h => ?_) (fun cdv A outer s H vs Q E hr h => ?_))
    · obtain ⟨_, _, _, _, _, _, _, _, _, h, _⟩ := h
      exact h.elim
    · obtain ⟨_, _, _, _, _, _, _, _, _, h, _⟩ := h
      exact h.elim
  | n + 1, l => has_Sw (by omega) F g B (ok_scr F g B n (by omega))
abbrev sIw : Stmt := top 61
abbrev nIw : List Str := ["tree"]
theorem scIw : FnScope nIw ["tree"] (defScope sIw) := ⟨rfl, rfl, rfl, by decide +kernel, rfl, by decide +kernel, by decide +kernel⟩
theorem has_Iw {n L : Nat} (l29 : 29 ≤ L) (ln : n + 2 ≤ L) (n14 : n ≤ 14) {f : Addr} {fd : FuncData}  (F : Fun K "is_word" "is_word" sIw f fd) (g : mg "is_word" = some (.ref f)) (B : Blt mg) (hFwi : Has P w K mg base 29 "first_wrong_in" ["commands"] (spFwi K)) (hCiw : Has P w K mg base (n + 2) "commands_in_word" ["word"] (spCiw K CRo n)) (hFw : Has P w K mg base L "is_full_word" ["word"] (spFw K CRo n)) :
    FnOk P w K mg base CX0 (L + 1) f fd ["tree"] (spIw K n) := by
  obtain ⟨fFwi, dFwi, gFwi, kFwi, bFwi, GFwi⟩ := hFwi
  obtain ⟨fCiw, dCiw, gCiw, kCiw, bCiw, GCiw⟩ := hCiw
  obtain ⟨fFw, dFw, gFw, kFw, bFw, GFw⟩ := hFw
  refine (F.ok scIw (fun vs H Q E h => ?_) (fun cdv A outer s H vs Q E hr h => ?_))
  · obtain ⟨v, ws, b, r, rfl, _⟩ := h
    rfl
  · refine ⟨_, (pss_one (ps_ret (pe_and (pe_call GFw hr rfl gFw kFw bFw .nil pass0 (pa_cons (pv 0) pa_nil)) (pe_one (pe_cmpR op_isN (pe_call GFwi (hr.mono (by omega)) rfl gFwi kFwi bFwi .nil pass0 (pa_cons (pe_call GCiw (hr.mono (by omega)) rfl gCiw kCiw bCiw .nil pass0 (pa_cons (pv 0) pa_nil)) pa_nil)) pe_non (nomark _)))))), ?_⟩
    obtain ⟨v, ws, b, r, rfl, hd, sh, hw, l1, l2, k⟩ := h
    refine ⟨_, rfl, v, ws, b, r, rfl, hd, sh, hw, fun H1 s1 => ?_⟩
    cases he : (!ws.isEmpty && b) with
    | false =>
      rw [← Bool.and_assoc, he] at k
      exact ⟨_, rfl, if_no rfl (k _ s1)⟩
    | true =>
      rw [← Bool.and_assoc, he] at k
      rw [Bool.and_eq_true] at he
      have hw := hw.resolve_left (fun z => by rw [z] at he; cases he.1)
      obtain ⟨bs, e1, e2⟩ := cms_rel n hw
      refine ⟨_, rfl, if_yes rfl ⟨_, rfl, H1, v, ws, false, b, r, rfl, Same.refl _, dp_same s1 hd, hw, l1, l2, fun H2 a xs s2 fr ha al => ⟨a, xs, bs, rfl, ha, ?_, ?_, fun H3 u s3 eu => ⟨rfl, ?_⟩⟩⟩⟩
      · rw [e1] at al
        exact al.unmap.imp fun y c h => by
          obtain ⟨t, pa, x, rfl, _, q1, _, _, q3⟩ := h
          exact ⟨t, pa, x, rfl, SqT.of q1, dp_same s2 q3⟩
      · rw [e1, List.length_map] at l2
        exact l2
      · have z := k H3 ((s1.trans s2).trans s3)
        rw [Bool.true_and, e2, ← eu] at z
        exact z
end
end Qb
end PySem
namespace PySem
namespace Qb
open PySem.W PySem.Calls PyProof.Rows L2
theorem cs_app (x y : Str) : cs (x ++ y) = cs x ++ cs y := by
  show (x.cps ++ y.cps).toList = _
  simp
theorem str_of {x : Str} {l : L} (h : cs x = l) : x = st l := by rw [← h, st_cs]
theorem name_nm (l : L) : isNameB l = isNm l := by
  cases l with
  | nil => rfl
  | cons c r =>
    show (nameLen (c :: r) == r.length + 1) = (decide (c ∈ staC) && r.all fun d => decide (d ∈ namC))
    have en : nameLen (c :: r) = if c ∈ cs startS then 1 + (r.takeWhile fun d => decide (d ∈ cs nameS)).length else 0 := rfl
    rw [en]
    by_cases h : c ∈ staC
    · have h' : c ∈ cs startS := h
      rw [if_pos h', decide_eq_true h, Bool.true_and]
      have key : ∀ (r : L), (1 + (r.takeWhile fun d => decide (d ∈ cs nameS)).length == r.length + 1) = r.all fun d => decide (d ∈ namC) := by
        intro r
        induction r with
        | nil => rfl
        | cons d r ih =>
          by_cases hd : d ∈ namC
          · have p : decide (d ∈ cs nameS) = true := decide_eq_true hd
            rw [List.takeWhile_cons_of_pos (p := fun d => decide (d ∈ cs nameS)) p, List.all_cons, decide_eq_true hd, Bool.true_and, ← ih, List.length_cons, List.length_cons]
            by_cases q : 1 + (r.takeWhile fun d => decide (d ∈ cs nameS)).length = r.length + 1
            · rw [q, beq_self_eq_true, beq_iff_eq.mpr (by omega)]
            · rw [beq_eq_false_iff_ne.mpr q, beq_eq_false_iff_ne.mpr (by omega)]
          · have p : ¬ decide (d ∈ cs nameS) = true := fun z => hd (of_decide_eq_true z)
            rw [List.takeWhile_cons_of_neg (p := fun d => decide (d ∈ cs nameS)) p, List.all_cons, decide_eq_false hd, Bool.false_and]
            exact beq_eq_false_iff_ne.mpr (by simp)
      exact key r
    · have h' : ¬ c ∈ cs startS := h
      rw [if_neg h', decide_eq_false h, Bool.false_and]
      exact beq_eq_false_iff_ne.mpr (by omega)
end Qb
end PySem
namespace PySem
namespace Qb
open PySem.W PySem.Calls PyProof.Rows L2
abbrev sState : Stmt := top 64
abbrev sDraw : Stmt := top 65
abbrev sSig : Stmt := top 66
abbrev sNm : Stmt := top 68
/-- the state of the draws: its list at S, the rests at R -/
structure StAt (bu : Int) (H : Hp) (S R : Addr) (rs : List Int) (n : Nat) : Prop where
  at_ : H S = some (.lst [.ref R, .int n, .int 14, .int bu])
  rest : H R = some (.lst (rs.map V.int))
  full : rs ≠ []
  few : rs.length ≤ 64
  pos : ∀ r ∈ rs, 0 ≤ r
  soon : n ≤ 100000
  ne : S ≠ R
def spDraw : Sp := fun vs H Q _ => ∃ (S R : Addr) (rs : List Int) (n : Nat) (m bu : Int), vs = [.ref S, .int m] ∧ 0 < m ∧ m ≤ 10 ^ 30 ∧ n < 100000 ∧ StAt bu H S R rs n ∧
  ∀ (H' : Hp) (r : Int) (rs' : List Int), 0 ≤ r → r < m → StAt bu H' S R rs' (n + 1) → (∀ b, b ≠ S → b ≠ R → H' b = H b) → Q (.int r) H'
theorem scDraw : FnScope ["_law_state_here", "_law_many", "_law_at", "_law_worth", "_law_rests", "_law_one", "_law_two", "_law_three"] ["_law_state_here", "_law_many"] (defScope sDraw) :=
  ⟨rfl, rfl, rfl, by decide +kernel, rfl, by decide +kernel, by decide +kernel⟩
section
variable {P : Program} {w : World} {K : Frag} {mg : Str → Option Value} {base : Heap}
theorem sqH {H : Hp} {a : Addr} {xs : List V} (h : H a = some (.lst xs)) : SqL K H a xs := SqL.of h
theorem fmod_at {rs : List Int} {n : Nat} (hf : rs ≠ []) : ∃ j : Nat, j < rs.length ∧ ((n : Int).fmod (rs.length : Int)) = (j : Int) := by
  have h : 0 < rs.length := List.length_pos_iff.mpr hf
  refine ⟨n % rs.length, Nat.mod_lt _ h, ?_⟩
  rw [Int.fmod_eq_emod_of_nonneg _ (by omega)]
  simp
abbrev st1 (bu : Int) (H : Hp) (S R : Addr) (n : Nat) : Hp := upd H S (.lst [V.ref R, V.int (n + 1), V.int 14, V.int bu])
theorem upd_off {H : Hp} {a b : Addr} {o : HO} (h : b ≠ a) : upd H a o b = H b := upd_ne h
theorem ok_draw {f : Addr} {fd : FuncData} (F : Fun K "_law_draw" "_law_draw" sDraw f fd) (B : Blt mg) : FnOk P w K mg base CX0 1 f fd ["_law_state_here", "_law_many"] spDraw := by
  refine F.ok scDraw (fun vs H Q E h => ?_) (fun cdv A outer s H vs Q E hr h => ?_)
  · obtain ⟨S, R, rs, n, m, bu, rfl, _⟩ := h
    rfl
  · refine ⟨_, pss_cons (ps_set (i := 2) scDraw.nd rfl (.inl rfl) (pe_op op_modN (pe_callTy call_int1 (by rfl) B.int (by decide +kernel) (pa_cons (pe_ix ix_list (pv 0) pe_int (fun _ _ => rfl)) pa_nil))
          (pe_callB call_len (by rfl) B.len PySem.boot_len (pa_cons (pe_ix ix_list (pv 0) pe_int (fun _ _ => rfl)) pa_nil))))
      (pss_cons (ps_asg (pe_op op_add (pe_ix ix_list (pv 0) pe_int (fun _ _ => rfl)) pe_int) (pg_sub (pv 0) pe_int set_list))
      (pss_cons (ps_set (i := 3) scDraw.nd rfl (.inl rfl) (pe_ix ix_list (pe_ix ix_list (pv 0) pe_int (fun _ _ => rfl)) (pv 2) (fun _ _ => rfl)))
      (pss_cons (ps_if (pt_cmpR op_ge (pv 3) (pe_op op_pow pe_int pe_int) (nomark _))
          (pss_cons (ps_set (i := 4) scDraw.nd rfl (.inl rfl) (pe_ix ix_list (pv 0) pe_int (fun _ _ => rfl)))
          (pss_cons (ps_asg (pe_op op_fdivW (pv 3) (pv 1)) (pg_sub (pv 4) (pv 2) set_list))
          (pss_one (ps_ret (pe_op op_modN (pe_callTy call_int1 (by rfl) B.int (by decide +kernel) (pa_cons (pv 3) pa_nil)) (pv 1)))))) pss_nil)
      (pss_cons (ps_set (i := 5) scDraw.nd rfl (.inl rfl) (pe_op op_modN (pe_callTy call_int1 (by rfl) B.int (by decide +kernel)
          (pa_cons (pe_op op_add (pe_op op_add (pe_op op_mul (pv 3) pe_int) (pe_op op_mul (pe_ix ix_list (pv 0) pe_int (fun _ _ => rfl)) pe_int)) pe_int) pa_nil)) pe_int))
      (pss_cons (ps_set (i := 6) scDraw.nd rfl (.inl rfl) (pe_op op_modN (pe_callTy call_int1 (by rfl) B.int (by decide +kernel)
          (pa_cons (pe_op op_add (pe_op op_mul (pv 5) (pv 5)) (pe_op op_mul (pe_ix ix_list (pv 0) pe_int (fun _ _ => rfl)) pe_int)) pa_nil)) pe_int))
      (pss_cons (ps_set (i := 7) scDraw.nd rfl (.inl rfl) (pe_op op_modN (pe_callTy call_int1 (by rfl) B.int (by decide +kernel)
          (pa_cons (pe_op op_add (pe_op op_mul (pv 6) pe_int) (pv 5)) pa_nil)) pe_int))
      (pss_one (ps_ret (pe_op op_modN (pe_callTy call_int1 (by rfl) B.int (by decide +kernel) (pa_cons (pe_op op_fdiv (pv 7) pe_int) pa_nil)) (pv 1)))))))))), ?_⟩
    obtain ⟨S, R, rs, n, m, bu, rfl, m0, m1, n0, T, k⟩ := h
    obtain ⟨hS, hR, hf, hl, hp, hn, hne⟩ := T
    obtain ⟨j, hj, ej⟩ : ∃ j : Nat, j < rs.length ∧ ((n : Int).fmod (rs.length : Int)) = (j : Int) := fmod_at hf
    have lm : (rs.map V.int).length = rs.length := List.length_map ..
    have ln0 : ((rs.length : Nat) : Int) ≠ 0 := by
      have : 0 < rs.length := List.length_pos_iff.mpr hf
      omega
    -- where the draw stands, and its number put on
    refine ⟨_, rfl, S, _, _, _, rfl, rfl, sqH hS, rfl, .inl ⟨_, rfl, _, rfl, S, _, _, _, rfl, rfl, sqH hS, rfl, _, rs.length, rfl, .inl ⟨_, sqH hR, lm.symm⟩, _, _, rfl, rfl, ln0, ?_⟩⟩
    refine ⟨_, rfl, S, _, _, _, rfl, rfl, sqH hS, rfl, _, _, rfl, rfl, _, rfl, S, _, _, _, rfl, rfl, hS, rfl, ?_⟩
    have hS1 : (st1 bu H S R n) S = some (.lst [V.ref R, V.int (n + 1), V.int 14, V.int bu]) := upd_same
    have hR1 : (st1 bu H S R n) R = some (.lst (rs.map V.int)) := by
      show upd _ _ _ R = _
      rw [upd_ne (Ne.symm hne)]
      exact hR
    have off1 : ∀ b, b ≠ S → b ≠ R → (st1 bu H S R n) b = H b := fun b h1 _ => upd_ne h1
    have hw : rs[j]? = some rs[j] := List.getElem?_eq_getElem hj
    have w0 : 0 ≤ rs[j] := hp _ (List.getElem_mem hj)
    generalize rs[j] = wv at hw w0
    have hwV : (rs.map V.int)[j]? = some (V.int wv) := by rw [List.getElem?_map, hw]; rfl
    have hat : atI (rs.map V.int) ((n : Int).fmod (rs.length : Int)) = some (V.int wv) := by
      rw [ej]
      exact atI_nat hwV
    have hix : ixN (rs.map V.int).length ((n : Int).fmod (rs.length : Int)) = some j := by
      rw [ej, lm]
      exact ixN_of hj
    have T1 : StAt bu (st1 bu H S R n) S R rs (n + 1) := ⟨hS1, hR1, hf, hl, hp, by omega, hne⟩
    refine ⟨_, rfl, S, _, _, _, rfl, rfl, sqH hS1, rfl, _, rfl, R, _, _, _, rfl, rfl, sqH hR1, hat, ?_⟩
    refine ⟨_, rfl, _, _, rfl, rfl, ⟨by decide, by decide, by decide⟩, _, _, rfl, rfl, _, rfl, ?_⟩
    refine ite2 (fun _ => ?_) (fun _ => ?_)
    · -- a great rest is divided
      refine ⟨_, rfl, S, _, _, _, rfl, rfl, sqH hS1, rfl, ?_⟩
      refine ⟨_, rfl, _, rfl, _, _, rfl, rfl, wide_div (b := 200) m0 (by omega) (by decide) (by decide), _, rfl, _, rfl, R, _, _, _, rfl, rfl, hR1, hix, ?_⟩
      refine ⟨_, rfl, .inl ⟨_, rfl, _, rfl, _, _, rfl, rfl, Int.ne_of_gt m0, ?_⟩⟩
      refine k _ _ (rs.set j (wv / m)) (fm0 m0 _) (fm1 m0 _) ⟨?_, ?_, ?_, ?_, ?_, by omega, hne⟩ (fun b h1 h2 => ?_)
      · rw [upd_ne hne]
        exact T1.at_
      · rw [List.map_set]
        exact upd_same
      · intro e
        have := congrArg List.length e
        rw [List.length_set] at this
        exact hf (List.length_eq_zero_iff.mp this)
      · rw [List.length_set]
        exact hl
      · intro r hr
        rcases List.mem_or_eq_of_mem_set hr with h | h
        · exact hp r h
        · rw [h]
          exact Int.ediv_nonneg w0 (by omega)
      · rw [upd_ne h2]
        exact off1 b h1 h2
    · -- otherwise it is mixed
      have one0 : 0 ≤ (wv * 48271 + ((n : Int) + 1) * 69621 + 17).fmod 2147483647 := fm0 (by decide) _
      have one1 : (wv * 48271 + ((n : Int) + 1) * 69621 + 17).fmod 2147483647 < 2147483647 := fm1 (by decide) _
      refine ⟨_, rfl, _, _, rfl, rfl, .inr ⟨by decide, by decide⟩, _, rfl, S, _, _, _, rfl, rfl, sqH hS1, rfl, _, _, rfl, rfl, .inr ⟨by decide, by decide⟩, _, _, rfl, rfl, _, _, rfl, rfl, .inl ⟨_, rfl, _, _, rfl, rfl, (by show (_ : Int) ≠ 0; decide), ?_⟩⟩
      refine ⟨_, rfl, _, rfl, _, _, rfl, rfl, .inl ⟨Int.lt_of_lt_of_le (by decide) one0, Int.lt_trans one1 (by decide)⟩, _, rfl, S, _, _, _, rfl, rfl, sqH hS1, rfl, _, _, rfl, rfl, .inr ⟨by decide, by decide⟩, _, _, rfl, rfl, .inl ⟨_, rfl, _, _, rfl, rfl, (by show (_ : Int) ≠ 0; decide), ?_⟩⟩
      refine ⟨_, rfl, _, _, rfl, rfl, .inr ⟨by decide, by decide⟩, _, rfl, _, _, rfl, rfl, .inl ⟨_, rfl, _, _, rfl, rfl, (by show (_ : Int) ≠ 0; decide), ?_⟩⟩
      refine ⟨_, rfl, _, _, rfl, rfl, ⟨by decide, by decide⟩, .inl ⟨_, rfl, _, rfl, _, _, rfl, rfl, Int.ne_of_gt m0, ?_⟩⟩
      exact k _ _ rs (fm0 m0 _) (fm1 m0 _) T1 off1
end
def cellOf (c : Int) : Int := 2 * (if c < 0 then -c else c) + (if decide (c < 0) = true then 1 else 0)
theorem cellOf_pos (c : Int) : 0 ≤ cellOf c := by
  unfold cellOf
  by_cases h : c < 0
  · rw [if_pos h, if_pos (decide_eq_true h)]
    omega
  · rw [if_neg h, if_neg (by simpa using h)]
    omega
def spState (K : Frag) : Sp := fun vs H Q _ => ∃ (a : Addr) (ns : List Int), vs = [.ref a] ∧ SqL K H a (ns.map V.int) ∧ ns.length ≤ 63 ∧
  ∀ (H' : Hp) (S R : Addr) (rs : List Int), StAt 34 H' S R rs 0 → H S = none → H R = none → Same H H' → Q (.ref S) H'
theorem scState : FnScope ["_law_script_here", "_law_rests", "_law_cell"] ["_law_script_here"] (defScope sState) :=
  ⟨rfl, rfl, rfl, by decide +kernel, rfl, by decide +kernel, by decide +kernel⟩
theorem dpInts {K : Frag} {H : Hp} : ∀ ms : List Int, DpAll K H (ms.map V.int) (ms.map PyData.int)
  | [] => .nil
  | m :: ms => .cons (.int m) (dpInts ms)
section
variable {P : Program} {w : World} {K : Frag} {mg : Str → Option Value} {base : Heap}
theorem ok_state {f : Addr} {fd : FuncData} (F : Fun K "_law_state" "_law_state" sState f fd) (B : Blt mg) : FnOk P w K mg base CX0 1 f fd ["_law_script_here"] (spState K) := by
  refine F.ok scState (fun vs H Q E h => ?_) (fun cdv A outer s H vs Q E hr h => ?_)
  · obtain ⟨a, ns, rfl, _⟩ := h
    rfl
  · refine ⟨_, pss_cons (ps_setLc (i := 1) (own := [("_law_cell", 2)]) (g := gName 2) (tt := tYes) rfl scState.nd rfl rfl (sw_true rfl rfl rfl (by decide +kernel)) (pi_list (pv 0)) (blkOk_by (N := ["_law_script_here", "_law_rests", "_law_cell"]) (sc := defScope sState) (by decide +kernel))
        (fun _ _ _ _ _ => pg_name (i := 2) scState.nd rfl (Or.inl rfl)) (fun _ _ _ _ _ => pts_nil)
        (fun _ _ _ _ _ => pe_op op_add (pe_op op_mul pe_int (pe_callB call_abs (by rfl) B.abs (by decide +kernel) (pa_cons (pv 2) pa_nil)))
          (pe_callTy call_int1 (by rfl) B.int (by decide +kernel) (pa_cons (pe_cmpR op_lt (pv 2) pe_int (nomark _)) pa_nil))))
      (pss_cons (ps_if (pt_cmpR (op_eqD hr.units) (pv 1) (pe_lst pa_nil) (nomark _)) (pss_one (ps_set (i := 1) scState.nd rfl (.inl rfl) (pe_lst (pa_cons pe_int pa_nil)))) pss_nil)
      (pss_one (ps_ret (pe_lst (pa_cons (pv 1) (pa_cons pe_int (pa_cons pe_int (pa_cons pe_int pa_nil)))))))), ?_⟩
    obtain ⟨a, ns, rfl, hS, hl, k⟩ := h
    refine ⟨_, rfl, a, rfl, ⟨_, hS⟩, fun D hD => lc_list (K := K) (xs := ns.map V.int) (fun i H' => H' = upd H D (.lst (((ns.take i).map cellOf).map V.int))) (by simp) (fun i H' _ e => ?_) (fun i x H' hi e => ?_) (fun H' e => ?_)⟩
    · rw [e]
      exact (same_upd hD).seq hS
    · obtain ⟨c, hc, rfl⟩ : ∃ c, ns[i]? = some c ∧ x = V.int c := by
        rw [List.getElem?_map] at hi
        cases z : ns[i]? with
        | none => rw [z] at hi; cases hi
        | some c => rw [z] at hi; exact ⟨c, rfl, (Option.some.inj hi).symm⟩
      have hlen : ns.length ≤ 63 := hl
      subst e
      refine ⟨rfl, ?_⟩
      refine ⟨_, rfl, _, rfl, _, _, rfl, rfl, .inl ⟨by decide, by decide⟩, _, rfl, _, _, rfl, rfl, .inr ⟨_, rfl, _, _, rfl, rfl, ?_⟩⟩
      refine ⟨_, upd_same, ?_, ?_⟩
      · rw [List.length_map, List.length_map]
        have z : (ns.take i).length ≤ 63 := by
          rw [List.length_take]
          omega
        exact Nat.lt_of_le_of_lt z (by decide)
      · rw [upd_upd, take_snoc hc, List.map_append, List.map_append]
        rfl
    · subst e
      rw [List.length_map, List.take_length]
      generalize hms : ns.map cellOf = ms
      have mpos : ∀ r ∈ ms, 0 ≤ r := by
        rw [← hms]
        intro r hr
        obtain ⟨c, _, rfl⟩ := List.mem_map.mp hr
        exact cellOf_pos c
      have mlen : ms.length ≤ 63 := by
        rw [← hms, List.length_map]
        exact hl
      have sD : Same H (upd H D (.lst (ms.map V.int))) := same_upd hD
      refine ⟨_, rfl, (by decide : 0 ≤ sizeLine), fun p np => ?_⟩
      have hDp : D ≠ p := fun e => by
        rw [e, upd_same] at np
        cases np
      have np0 : H p = none := sD.free np
      refine ⟨.list (ms.map PyData.int), .list [], .lst (SqL.of (by rw [upd_ne hDp]; exact upd_same)) (dpInts ms), .lst (SqL.of upd_same) .nil, PySem.W.shaped_ints ms, by decide, _, rfl, ?_⟩
      have sp : Same H (upd (upd H D (.lst (ms.map V.int))) p (.lst [])) := same_upd2 sD np0
      cases ms with
      | nil =>
        refine ⟨(by decide : 1 ≤ sizeLine), fun R nR => ?_⟩
        refine ⟨_, rfl, (by decide : 4 ≤ sizeLine), fun S nS => ?_⟩
        have hRS : R ≠ S := fun e => by
          rw [e, upd_same] at nS
          cases nS
        have nR0 : H R = none := sp.free nR
        have sR := same_upd2 (o := .lst [V.int 0]) sp nR0
        have nS0 : H S = none := sR.free nS
        exact k _ S R [0] ⟨upd_same, by rw [upd_ne hRS]; exact upd_same, by simp, by simp, by simp, by decide, Ne.symm hRS⟩ nS0 nR0 (same_upd2 sR nS0)
      | cons m ms =>
        refine ⟨_, rfl, (by decide : 4 ≤ sizeLine), fun S nS => ?_⟩
        have hDS : D ≠ S := fun e => by
          rw [e.symm, upd_ne hDp, upd_same] at nS
          cases nS
        have nS0 : H S = none := sp.free nS
        exact k _ S D (m :: ms) ⟨upd_same, by rw [upd_ne hDS, upd_ne hDp]; exact upd_same, by simp, by omega, mpos, by decide, Ne.symm hDS⟩ nS0 hD (same_upd2 sp nS0)
end
def U (S R : Addr) (H : Hp) : Hp := hide (hide H S) R
theorem U_back {S R : Addr} {H : Hp} : Same (U S R H) H := hide_same.trans hide_same
theorem U_same {S R : Addr} {H H' : Hp} (s : Same H H') : Same (U S R H) (U S R H') := hide_mono (hide_mono s)
theorem U_get {S R b : Addr} {H : Hp} {o : HO} (h : U S R H b = some o) : b ≠ S ∧ b ≠ R ∧ H b = some o := by
  refine ⟨fun z => ?_, fun z => ?_, U_back _ _ h⟩
  · have h1 := hide_same _ _ h
    unfold hide at h1
    rw [if_pos z] at h1
    cases h1
  · unfold U hide at h
    rw [if_pos z] at h
    cases h
theorem U_set {S R b : Addr} {H : Hp} {o : HO} (h : H b = some o) (n1 : b ≠ S) (n2 : b ≠ R) : U S R H b = some o := hide_ne (hide_ne h n1) n2
theorem U_off {S R : Addr} {H H' : Hp} (off : ∀ b, b ≠ S → b ≠ R → H' b = H b) : Same (U S R H) (U S R H') := fun b o h => by
  obtain ⟨n1, n2, h⟩ := U_get h
  exact U_set (by rw [off b n1 n2]; exact h) n1 n2
theorem U_none {S R b : Addr} {H : Hp} (h : H b = none) : U S R H b = none := by
  cases z : U S R H b with
  | none => rfl
  | some o => rw [(U_get z).2.2] at h; cases h
theorem U_upd2 {S R D : Addr} {H H1 : Hp} {o : HO} (s : Same (U S R H) (U S R H1)) (h : H D = none) : Same (U S R H) (U S R (L2.upd H1 D o)) := fun b u e => by
  have ne : b ≠ D := fun z => by rw [z, U_none h] at e; cases e
  obtain ⟨n1, n2, h1⟩ := U_get (s _ _ e)
  exact U_set (by rw [upd_ne ne]; exact h1) n1 n2
def St (bu : Int) (H : Hp) (S R : Addr) (n : Nat) : Prop := ∃ rs m, StAt bu H S R rs m ∧ m ≤ n
theorem St.same {bu : Int} {H H' : Hp} {S R : Addr} {n : Nat} (h : St bu H S R n) (s : Same H H') : St bu H' S R n := by
  obtain ⟨rs, m, T, l⟩ := h
  exact ⟨rs, m, ⟨s _ _ T.at_, s _ _ T.rest, T.full, T.few, T.pos, T.soon, T.ne⟩, l⟩
theorem St.le {bu : Int} {H : Hp} {S R : Addr} {n k : Nat} (h : St bu H S R n) (l : n ≤ k) : St bu H S R k := by
  obtain ⟨rs, m, T, l'⟩ := h
  exact ⟨rs, m, T, Nat.le_trans l' l⟩
theorem St.ne {bu : Int} {H : Hp} {S R D : Addr} {n : Nat} (h : St bu H S R n) (hD : H D = none) : D ≠ S ∧ D ≠ R := by
  obtain ⟨rs, m, T, l⟩ := h
  exact ⟨(fun z => by rw [z, T.at_] at hD; cases hD), (fun z => by rw [z, T.rest] at hD; cases hD)⟩
theorem St.upd {bu : Int} {H : Hp} {S R D : Addr} {n : Nat} {o : HO} (h : St bu H S R n) (hD : D ≠ S ∧ D ≠ R) : St bu (L2.upd H D o) S R n := by
  obtain ⟨rs, m, T, l⟩ := h
  exact ⟨rs, m, ⟨by rw [upd_ne (Ne.symm hD.1)]; exact T.at_, by rw [upd_ne (Ne.symm hD.2)]; exact T.rest, T.full, T.few, T.pos, T.soon, T.ne⟩, l⟩
theorem drew {bu : Int} {H H' : Hp} {S R : Addr} {n j : Nat} {r : Int} {rs : List Int} (h0 : 0 ≤ r) (T : StAt bu H' S R rs (j + 1)) (l : j ≤ n) (off : ∀ b, b ≠ S → b ≠ R → H' b = H b) : ∃ q : Nat, r = q ∧ St bu H' S R (n + 1) ∧ Same (U S R H) (U S R H') :=
  ⟨r.toNat, by omega, ⟨rs, j + 1, T, by omega⟩, U_off off⟩
theorem le30 {m : Int} (h : m ≤ 1000) : m ≤ 10 ^ 30 := Int.le_trans h (by decide)
abbrev nSig : List Str := ["_law_state_here", "_law_some", "_law_least", "_law_most", "_law_many", "_law_k"]
abbrev nNm : List Str := ["_law_state_here", "_law_some", "_law_words", "_law_pick"]
theorem scSig : FnScope nSig ["_law_state_here", "_law_some", "_law_least", "_law_most"] (defScope sSig) := ⟨rfl, rfl, rfl, by decide +kernel, rfl, by decide +kernel, by decide +kernel⟩
theorem scNm : FnScope nNm ["_law_state_here"] (defScope sNm) := ⟨rfl, rfl, rfl, by decide +kernel, rfl, by decide +kernel, by decide +kernel⟩
def rLen1 (K : Frag) : List V → Hp → VK → Prop := fun xs H Q => ∃ x n, xs = [x] ∧ LenV K x H n ∧ Q (.int n) H
def spSig : Sp := fun vs H Q _ => ∃ (S R : Addr) (n : Nat) (sm : Str) (lo hi : Nat) (bu : Int), vs = [.ref S, .str sm, .int lo, .int hi] ∧ lo ≤ hi ∧ hi ≤ 20 ∧ 0 < sm.length ∧ sm.length ≤ 500 ∧ n ≤ 90000 ∧ St bu H S R n ∧
  ∀ H' x, St bu H' S R (n + 1 + hi) → Same (U S R H) (U S R H') → (∀ c ∈ cs x, c ∈ cs sm) → lo ≤ x.length → x.length ≤ hi → Q (.str x) H'
section
variable {P : Program} {w : World} {K : Frag} {mg : Str → Option Value} {base : Heap}
theorem cs_one (c : Nat) : cs (⟨#[c]⟩ : Str) = [c] := rfl
theorem joinL_one : ∀ ts : List Str, (∀ t ∈ ts, ∃ c, t = (⟨#[c]⟩ : Str)) → (TL.joinL [] (ts.map TL.tl)).length = ts.length ∧ ∀ c ∈ TL.joinL [] (ts.map TL.tl), (⟨#[c]⟩ : Str) ∈ ts
  | [], _ => ⟨rfl, fun c m => by cases m⟩
  | [t], h => by
    obtain ⟨c, rfl⟩ := h t (.head _)
    refine ⟨rfl, fun d m => ?_⟩
    have m : d ∈ [c] := m
    rcases List.mem_singleton.mp m with rfl
    exact .head _
  | t :: u :: r, h => by
    obtain ⟨c, rfl⟩ := h t (.head _)
    have ih := joinL_one (u :: r) fun x m => h x (.tail _ m)
    refine ⟨?_, fun d m => ?_⟩
    · show ([c] ++ ([] ++ TL.joinL [] ((u :: r).map TL.tl))).length = _
      rw [List.length_append, List.nil_append, ih.1]
      show 1 + _ = _ + 1
      omega
    · have m : d ∈ [c] ++ ([] ++ TL.joinL [] ((u :: r).map TL.tl)) := m
      rcases List.mem_append.mp m with m | m
      · rcases List.mem_singleton.mp m with rfl
        exact .head _
      · exact .tail _ (ih.2 d m)
theorem join_one (ts : List Str) (h : ∀ t ∈ ts, ∃ c, t = (⟨#[c]⟩ : Str)) : (cs (Txt.join "" ts)).length = ts.length ∧ ∀ c ∈ cs (Txt.join "" ts), (⟨#[c]⟩ : Str) ∈ ts := by
  rw [TL.join_eq]
  have e : cs (Str.join "" ts) = TL.joinL [] (ts.map TL.tl) := TL.tl_join "" ts
  rw [e]
  exact joinL_one ts h
theorem ok_sig {f fD : Addr} {fd fdD : FuncData} (F : Fun K "_law_signs" "_law_signs" sSig f fd) (B : Blt mg) (FD : Fun K "_law_draw" "_law_draw" sDraw fD fdD) (gD : mg "_law_draw" = some (.ref fD)) (bD : Binds K fdD ["_law_state_here", "_law_many"] []) :
    FnOk P w K mg base CX0 2 f fd ["_law_state_here", "_law_some", "_law_least", "_law_most"] spSig := by
  have GD : FnOk P w K mg base CX0 1 fD fdD ["_law_state_here", "_law_many"] spDraw := ok_draw FD B
  refine F.ok scSig (fun vs H Q E h => ?_) (fun cdv A outer s H vs Q E hr h => ?_)
  · obtain ⟨S, R, n, sm, lo, hi, bu, rfl, _⟩ := h
    rfl
  · refine ⟨_, pss_cons (ps_set (i := 4) scSig.nd rfl (.inl rfl) (pe_op op_add (pv 2) (pe_call GD hr rfl gD FD.kp bD .nil pass0 (pa_cons (pv 0) (pa_cons (pe_op op_add (pe_op op_sub (pv 3) (pv 2)) pe_int) pa_nil)))))
      (pss_one (ps_ret (pe_join pe_str (pe_lc (te := tOp rIxS (tVar 1) (tCall spDraw [] E0 (tCons (tVar 0) (tCons (tCB (rLen1 K) (tCons (tVar 1) tNil)) tNil)))) (own := [("_law_k", 5)]) (g := gName 5) (tt := tYes) rfl scSig.nd (pi_range1 (by rfl) B.range (pa_cons (pv 4) pa_nil)) (blkOk_by (N := nSig) (sc := defScope sSig) (by decide +kernel))
        (fun _ _ _ _ _ => pg_name (i := 5) scSig.nd rfl (Or.inl rfl)) (fun _ _ _ _ _ => pts_nil)
        (fun _ _ _ _ _ => pe_ix ix_str (pv 1) (pe_call GD hr rfl gD FD.kp bD .nil pass0 (pa_cons (pv 0) (pa_cons (pe_callB call_len (by rfl) B.len PySem.boot_len (pa_cons (pv 1) pa_nil)) pa_nil))) (fun _ _ => rfl)))))), ?_⟩
    obtain ⟨S, R, n, sm, lo, hi, bu, rfl, hlh, hh, h0, hs, hn, T, k⟩ := h
    have hz : sm.length ≤ sizeLine := by
      rw [sizeLine_eq]
      omega
    obtain ⟨rs0, j0, T0, l0⟩ := T
    refine ⟨_, rfl, _, rfl, _, rfl, _, rfl, _, _, rfl, rfl, _, _, rfl, rfl, S, R, rs0, j0, _, _, rfl, by omega, le30 (by omega), by omega, T0, fun H1 r0 rs1 z0 hr1 z2 z3 => ?_⟩
    obtain ⟨r, rfl, T1, s1⟩ := drew z0 z2 l0 z3
    refine ⟨_, _, rfl, rfl, ?_⟩
    have em : ((lo : Int) + (r : Int)).toNat = lo + r := by omega
    refine ⟨⟨_, rfl⟩, _, rfl, _, rfl, by omega, by omega, fun D hD => ?_⟩
    have hDU : U S R H D = none := s1.free (U_none hD)
    refine lc_it (walk_range (lo := 0) (n := ((lo : Int) + (r : Int)).toNat))
      (fun i H' => St bu H' S R (n + 1 + i) ∧ Same (U S R H) (U S R H') ∧ ∃ ts : List Str, H' D = some (.lst (ts.map V.str)) ∧ ts.length = i ∧ ∀ t ∈ ts, ∃ c, t = (⟨#[c]⟩ : Str) ∧ c ∈ cs sm) ⟨T1.upd (T1.ne hD), ?_, [], upd_same, rfl, fun t m => by cases m⟩ (fun _ _ _ _ => trivial) (fun i x H' H2 hi e y => ?_) (fun H' e => ?_)
    · exact fun b u e => by
        have y := s1 b u e
        obtain ⟨n1, n2, h1⟩ := U_get y
        exact U_set (by rw [upd_ne (ne_of_none h1 hD)]; exact h1) n1 n2
    · obtain ⟨⟨rs2, j2, T2, l2⟩, s2, ts, hDt, hlt, hts⟩ := e
      obtain ⟨rfl, rfl⟩ := y
      refine ⟨rfl, _, rfl, _, rfl, _, rfl, .str sm, sm.length, rfl, ⟨hz, rfl⟩, S, R, rs2, j2, _, _, rfl, by omega, le30 (by omega), by omega, T2, fun H3 r0 rs3 z0 hq z2 z3 => ?_⟩
      obtain ⟨q, rfl, T3, s3⟩ := drew z0 z2 l2 z3
      obtain ⟨c, hc⟩ : ∃ c, (cs sm)[q]? = some c := ⟨_, List.getElem?_eq_getElem (by have := len_cs sm; omega)⟩
      obtain ⟨dS, dR⟩ := T1.ne hD
      have hD3 : H3 D = some (.lst (ts.map V.str)) := by
        rw [z3 D dS dR]
        exact hDt
      refine ⟨sm, _, c, rfl, rfl, hz, atI_nat hc, _, hD3, ?_, (T3.upd ⟨dS, dR⟩).le (by omega), ?_, ts ++ [⟨#[c]⟩], ?_, ?_, ?_⟩
      · rw [List.length_map, sizeLine_eq]
        omega
      · have sU := s2.trans s3
        exact fun b u e => by
          have y := sU b u e
          obtain ⟨n1, n2, h1⟩ := U_get y
          have ne : b ≠ D := fun z => by
            rw [z] at e
            exact absurd e (by rw [hDU]; simp)
          exact U_set (by rw [upd_ne ne]; exact h1) n1 n2
      · rw [upd_same, List.map_append]
        rfl
      · rw [List.length_append, List.length_singleton, hlt]
      · intro t m
        rcases List.mem_append.mp m with m | m
        · exact hts t m
        · rcases List.mem_singleton.mp m with rfl
          exact ⟨c, rfl, List.mem_of_getElem? hc⟩
    · obtain ⟨T2, s2, ts, hDt, hlt, hts⟩ := e
      have z := join_one ts fun t m => by
        obtain ⟨c, e, _⟩ := hts t m
        exact ⟨c, e⟩
      have sing : ∀ l : List Str, (∀ t ∈ l, ∃ c, t = (⟨#[c]⟩ : Str)) → (l.map fun t => t.length).sum = l.length := by
        intro l
        induction l with
        | nil => intro _; rfl
        | cons t l ih =>
          intro h
          obtain ⟨c, rfl⟩ := h t (.head _)
          rw [List.map_cons, List.sum_cons, ih fun x m => h x (.tail _ m), List.length_cons]
          show 1 + l.length = l.length + 1
          omega
      have sm1 := sing ts fun t m => by
        obtain ⟨c, e, _⟩ := hts t m
        exact ⟨c, e⟩
      have lj : (Txt.join "" ts).length = ts.length := by rw [len_cs]; exact z.1
      refine ⟨"", D, ts, rfl, rfl, .inl (SqL.of hDt), ?_, k H' _ (T2.le (by omega)) s2 (fun c m => ?_) (by omega) (by omega)⟩
      · rw [sm1, hlt]
        show _ + _ * 0 ≤ _
        omega
      · obtain ⟨c', e, mc⟩ := hts _ (z.2 c m)
        have e1 : cs (⟨#[c]⟩ : Str) = cs (⟨#[c']⟩ : Str) := congrArg cs e
        have e2 : c = c' := by
          rw [cs_one, cs_one] at e1
          exact List.head_eq_of_cons_eq e1
        rw [e2]
        exact mc
end
theorem name_of {c : Nat} {r : L} (h1 : c ∈ staC) (h2 : ∀ d ∈ r, d ∈ namC) : isNameB (c :: r) = true := by
  rw [name_nm]
  show (decide (c ∈ staC) && r.all fun d => decide (d ∈ namC)) = true
  rw [decide_eq_true h1, Bool.true_and, List.all_eq_true]
  exact fun d m => decide_eq_true (h2 d m)
theorem pick_of (ws : List Str) {r : Nat} (h : r < ws.length) : ∃ w ∈ ws, (ws.map V.str)[r]? = some (.str w) := by
  refine ⟨ws[r], List.getElem_mem h, ?_⟩
  rw [List.getElem?_map, List.getElem?_eq_getElem h]
  rfl
def spNm : Sp := fun vs H Q _ => ∃ (S R : Addr) (n : Nat) (bu : Int), vs = [.ref S] ∧ n ≤ 80000 ∧ St bu H S R n ∧ ∀ H' x, St bu H' S R (n + 7) → Same (U S R H) (U S R H') → isNameB (cs x) = true → x.length ≤ 5 → Q (.str x) H'
abbrev wNm : List Str := ["if", "in", "do", "x", "SEP"]
theorem U_new {S R D : Addr} {H : Hp} {o : HO} (h : H D = none) : Same (U S R H) (U S R (L2.upd H D o)) := U_upd2 (Same.refl _) h
section
variable {P : Program} {w : World} {K : Frag} {mg : Str → Option Value} {base : Heap}
theorem ok_nm {f fD fS : Addr} {fd fdD fdS : FuncData} (F : Fun K "_law_name" "_law_name" sNm f fd) (B : Blt mg)
    (FD : Fun K "_law_draw" "_law_draw" sDraw fD fdD) (gD : mg "_law_draw" = some (.ref fD)) (bD : Binds K fdD ["_law_state_here", "_law_many"] [])
    (FS : Fun K "_law_signs" "_law_signs" sSig fS fdS) (gS : mg "_law_signs" = some (.ref fS)) (bS : Binds K fdS ["_law_state_here", "_law_some", "_law_least", "_law_most"] []) :
    FnOk P w K mg base CX0 3 f fd ["_law_state_here"] spNm := by
  have GD : FnOk P w K mg base CX0 1 fD fdD ["_law_state_here", "_law_many"] spDraw := ok_draw FD B
  have GS : FnOk P w K mg base CX0 2 fS fdS ["_law_state_here", "_law_some", "_law_least", "_law_most"] spSig := ok_sig FS B FD gD bD
  refine F.ok scNm (fun vs H Q E h => ?_) (fun cdv A outer s H vs Q E hr h => ?_)
  · obtain ⟨S, R, n, bu, rfl, _⟩ := h
    rfl
  · refine ⟨_, pss_cons (ps_set (i := 1) scNm.nd rfl (.inl rfl) pe_str)
      (pss_cons (ps_set (i := 2) scNm.nd rfl (.inl rfl) (pe_lst (pa_cons pe_str (pa_cons pe_str (pa_cons pe_str (pa_cons pe_str (pa_cons pe_str pa_nil)))))))
      (pss_cons (ps_set (i := 3) scNm.nd rfl (.inl rfl) (pe_call GD (hr.mono (by decide)) rfl gD FD.kp bD .nil pass0 (pa_cons (pv 0) (pa_cons pe_int pa_nil))))
      (pss_cons (ps_if (pt_cmpR op_lt (pv 3) pe_int (nomark _)) (pss_one (ps_ret (pe_ix ix_list (pv 2) (pv 3) (fun _ _ => rfl)))) pss_nil)
      (pss_one (ps_ret (pe_op op_add_str (pe_ix ix_str (pv 1) (pe_call GD (hr.mono (by decide)) rfl gD FD.kp bD .nil pass0 (pa_cons (pv 0) (pa_cons pe_int pa_nil))) (fun _ _ => rfl))
        (pe_call GS hr rfl gS FS.kp bS .nil pass0 (pa_cons (pv 0) (pa_cons (pe_op op_add_str (pv 1) pe_str) (pa_cons pe_int (pa_cons pe_int pa_nil))))))))))), ?_⟩
    obtain ⟨S, R, n, bu, rfl, hn, T, k⟩ := h
    refine ⟨(by decide : 5 ≤ sizeLine), fun L nL => ?_⟩
    have hU := U_new (S := S) (R := R) (o := .lst (wNm.map V.str)) nL
    obtain ⟨rs0, j0, T0, l0⟩ := T.upd (o := .lst (wNm.map V.str)) (T.ne nL)
    refine ⟨_, rfl, S, R, rs0, j0, _, _, rfl, by decide, by decide, by omega, T0, fun H1 r0 rs1 z0 hr1 z2 z3 => ?_⟩
    obtain ⟨r, rfl, T1, s1⟩ := drew z0 z2 l0 z3
    have hL : H1 L = some (.lst (wNm.map V.str)) := by
      rw [z3 L (T.ne nL).1 (T.ne nL).2]
      exact upd_same
    refine ⟨_, rfl, _, _, rfl, rfl, _, rfl, if_by (fun e => ?_) (fun e => ?_)⟩
    · have hlt : r < 5 := by
        have := of_decide_eq_true e
        omega
      obtain ⟨x, mx, hx⟩ := pick_of wNm (r := r) hlt
      have ok : ∀ x ∈ wNm, isNameB (cs x) = true ∧ x.length ≤ 5 := by decide +kernel
      exact ⟨_, rfl, _, rfl, L, _, _, _, rfl, rfl, SqL.of hL, atI_nat hx, k H1 x (T1.le (by omega)) (hU.trans s1) (ok x mx).1 (ok x mx).2⟩
    · obtain ⟨rs2, j2, T2, l2⟩ := T1
      refine ⟨_, rfl, _, rfl, S, R, rs2, j2, _, _, rfl, by decide, by decide, by omega, T2, fun H3 r3 rs3 z4 hr3 z6 z7 => ?_⟩
      obtain ⟨q, rfl, T3, s3⟩ := drew z4 z6 l2 z7
      have hq : q < (cs startS).length := Nat.lt_of_lt_of_le (by omega : q < 53) (by decide +kernel)
      obtain ⟨c, hc⟩ : ∃ c, (cs startS)[q]? = some c := ⟨_, List.getElem?_eq_getElem hq⟩
      have lS : startS.length ≤ sizeLine := by decide +kernel
      refine ⟨startS, _, c, rfl, rfl, lS, atI_nat hc, _, rfl, _, rfl, _, _, rfl, rfl, by decide +kernel, ?_⟩
      refine ⟨S, R, n + 2, startS ++ ("0123456789" : Str), 0, 4, _, rfl, by decide, by decide, by decide +kernel, by decide +kernel, by omega, T3, fun H4 y T4 s4 hy _ ly => ?_⟩
      have e1 : cs (startS ++ ("0123456789" : Str)) = cs nameS := by decide +kernel
      have ex : cs ((⟨#[c]⟩ : Str) ++ y) = c :: cs y := by
        rw [cs_app]
        rfl
      have lx : ((⟨#[c]⟩ : Str) ++ y).length = 1 + y.length := by
        rw [len_cs, ex, List.length_cons, len_cs y]
        omega
      refine ⟨_, _, rfl, rfl, ?_, k H4 _ (T4.le (by omega)) ((hU.trans s1).trans (s3.trans s4)) ?_ (by omega)⟩
      · show 1 + y.length ≤ sizeLine
        rw [sizeLine_eq]
        omega
      · rw [ex]
        exact name_of (List.mem_of_getElem? hc) fun d m => by have z := hy d m; rw [e1] at z; exact z
end
end Qb
end PySem
namespace PySem
namespace Qb
open PySem.W PySem.Calls PyProof.Rows L2
/-! # a drawn sum -/
def Sm.size : Sm → Nat
  | .num _ => 1
  | .of _ => 1
  | .one _ a => 1 + a.size
  | .two _ a b => 1 + a.size + b.size
  | .three _ a b c => 1 + a.size + b.size + c.size
abbrev wPl : List Str := ["0", "1", "12", "#", "?"]
def Sm.drn : Sm → Prop
  | .num n => 0 ≤ n ∧ n ≤ 10 ^ 18
  | .of w => (isNameB (cs w) = true ∧ w.length ≤ 5) ∨ w ∈ wPl
  | .one s a => (s = "minus" ∨ s = "no") ∧ a.drn
  | .two s a b => isOp s = true ∧ a.drn ∧ b.drn
  | .three s a b c => s = "choose" ∧ a.drn ∧ b.drn ∧ c.drn
theorem isz_size : ∀ (t : Sm), t.isz ≤ t.size
  | .num _ => Nat.zero_le _
  | .of _ => Nat.zero_le _
  | .one _ a => by
    have := isz_size a
    show 1 + a.isz ≤ 1 + a.size
    omega
  | .two _ a b => by
    have := isz_size a
    have := isz_size b
    show 1 + a.isz + b.isz ≤ 1 + a.size + b.size
    omega
  | .three _ a b c => by
    have := isz_size a
    have := isz_size b
    have := isz_size c
    show 1 + a.isz + b.isz + c.isz ≤ 1 + a.size + b.size + c.size
    omega
def spLs (K : Frag) : Nat → Sp
  | 0 => fun _ _ _ _ => False
  | n + 1 => fun vs H Q _ => ∃ (S R : Addr) (m : Nat) (bu : Int), vs = [.ref S, .int (n : Nat)] ∧ m + 9 * 4 ^ (n + 1) ≤ 70000 ∧ St bu H S R m ∧
    ∀ (H' : Hp) (v : V) (t : Sm), St (bu - t.size) H' S R (m + 9 * t.size) → Same (U S R H) (U S R H') → Dp K (U S R H') v t.d → t.drn → t.ht ≤ n → t.size ≤ 4 ^ (n + 1) → ((t.isz : Int) ≤ bu - 1 ∨ t.isz = 0) → (t.size = 1 ∨ ((t.size : Int) ≤ bu + 2 * (n : Nat) ∧ 2 ≤ bu)) → Q v H'
section
variable {P : Program} {w : World} {K : Frag} {mg : Str → Option Value} {base : Heap}
theorem drw {S R : Addr} {H : Hp} {m : Nat} {bu k : Int} {Q : VK} {E : XK} (T : St bu H S R m) (hm : m < 90000) (k0 : 0 < k) (k1 : k ≤ 10 ^ 30)
    (q : ∀ (H' : Hp) (r : Nat), (r : Int) < k → St bu H' S R (m + 1) → Same (U S R H) (U S R H') → (∀ b, b ≠ S → b ≠ R → H' b = H b) → Q (.int (r : Nat)) H') : spDraw ([.ref S, .int k] ++ []) H Q E := by
  obtain ⟨rs, j, T0, l0⟩ := T
  refine ⟨S, R, rs, j, k, bu, rfl, k0, k1, by omega, T0, fun H1 r0 rs1 z0 hr1 z2 z3 => ?_⟩
  obtain ⟨r, rfl, T1, s1⟩ := drew z0 z2 l0 z3
  exact q H1 r hr1 T1 s1 z3
theorem U_new2 {S R D : Addr} {H H1 : Hp} {o : HO} (s : Same (U S R H) (U S R H1)) (h : H1 D = none) : Same (U S R H) (U S R (L2.upd H1 D o)) := s.trans (U_new h)
theorem St.eq {b b' : Int} {H : Hp} {S R : Addr} {n : Nat} (h : St b H S R n) (e : b = b') : St b' H S R n := e ▸ h
theorem nmw {S R : Addr} {H : Hp} {m : Nat} {bu : Int} {Q : VK} {E : XK} (T : St bu H S R m) (hm : m ≤ 80000)
    (q : ∀ (H' : Hp) (x : Str), St bu H' S R (m + 7) → Same (U S R H) (U S R H') → isNameB (cs x) = true → x.length ≤ 5 → Q (.str x) H') : spNm ([.ref S] ++ []) H Q E := ⟨S, R, m, bu, rfl, hm, T, q⟩
/-- a tuple is made while the state at S and R changes -/
theorem mk_tupU {K : Frag} {S R T : Addr} {H : Hp} {vs : List V} {ds : List PyData} (n : H T = none) (ne : T ≠ S ∧ T ≠ R) (h : DpAll K (U S R H) vs ds) : Dp K (U S R (L2.upd H T (.tup vs))) (.ref T) (.tuple ds) :=
  .tup (SqT.of (U_set upd_same ne.1 ne.2)) (dpAll_same (U_new n) h)
abbrev sLs : Stmt := top 71
abbrev nLs : List Str := ["_law_state_here", "_law_deep", "_law_pick", "_law_sign"]
theorem scLs : FnScope nLs ["_law_state_here", "_law_deep"] (defScope sLs) := ⟨rfl, rfl, rfl, by decide +kernel, rfl, by decide +kernel, by decide +kernel⟩
theorem ok_Ls {spD spN : Sp} (drw : ∀ {S R : Addr} {H : Hp} {m : Nat} {bu k : Int} {Q : VK} {E : XK}, St bu H S R m → m < 90000 → 0 < k → k ≤ 10 ^ 30 → (∀ (H' : Hp) (r : Nat), (r : Int) < k → St bu H' S R (m + 1) → Same (U S R H) (U S R H') → (∀ b, b ≠ S → b ≠ R → H' b = H b) → Q (.int (r : Nat)) H') → spD ([.ref S, .int k] ++ []) H Q E)
    (nmw : ∀ {S R : Addr} {H : Hp} {m : Nat} {bu : Int} {Q : VK} {E : XK}, St bu H S R m → m ≤ 80000 → (∀ (H' : Hp) (x : Str), St bu H' S R (m + 7) → Same (U S R H) (U S R H') → isNameB (cs x) = true → x.length ≤ 5 → Q (.str x) H') → spN ([.ref S] ++ []) H Q E) {f : Addr} {fd : FuncData} (F : Fun K "_law_sum" "_law_sum" sLs f fd) (gLs : mg "_law_sum" = some (.ref f)) (bLs : Binds K fd ["_law_state_here", "_law_deep"] []) {fDr fNm : Addr} {dDr dNm : FuncData} (gDr : mg "_law_draw" = some (.ref fDr)) (kDr : PySem.W.keepIn K (.ref fDr) = true) (bDr : Binds K dDr ["_law_state_here", "_law_many"] []) (GDr : FnOk P w K mg base CX0 1 fDr dDr ["_law_state_here", "_law_many"] spD)
    (gNm : mg "_law_name" = some (.ref fNm)) (kNm : PySem.W.keepIn K (.ref fNm) = true) (bNm : Binds K dNm ["_law_state_here"] []) (GNm : FnOk P w K mg base CX0 3 fNm dNm ["_law_state_here"] spN) : ∀ n, FnOk P w K mg base CX0 (n + 5) f fd ["_law_state_here", "_law_deep"] (spLs K n)
  | 0 => F.ok scLs (fun vs H Q E h => h.elim) (fun cdv A outer s H vs Q E hr h => h.elim)
  | n + 1 => by
    have GLs := ok_Ls drw nmw F gLs bLs gDr kDr bDr GDr gNm kNm bNm GNm n
    have kLs := F.kp
    refine F.ok scLs (fun vs H Q E h => ?_) (fun cdv A outer s H vs Q E hr h => ?_)
    · obtain ⟨S, R, m, bu, rfl, _⟩ := h
      rfl
    · refine ⟨_, (pss_cons (ps_asg (pe_op op_sub (pe_ix ix_list (pv 0) pe_int (fun _ _ => rfl)) pe_int) (pg_sub (pv 0) pe_int set_list))
        (pss_cons (ps_set (i := 2) scLs.nd rfl (.inl rfl) (pe_call GDr (hr.mono (by omega)) rfl gDr kDr bDr .nil pass0 (pa_cons (pv 0) (pa_cons pe_int pa_nil))))
        (pss_cons (ps_if (PW.pt (pw_or (pt_cmpR op_eq (pv 1) pe_int (nomark _)) (pw_or (pt_cmpR op_le (pe_ix ix_list (pv 0) pe_int (fun _ _ => rfl)) pe_int (nomark _)) (pw_or1 (pt_cmpR op_lt (pv 2) pe_int (nomark _)))))) (pss_one (ps_ret (pe_tup (pa_cons pe_str (pa_cons (pe_call GDr (hr.mono (by omega)) rfl gDr kDr bDr .nil pass0 (pa_cons (pv 0) (pa_cons (pe_ix ix_list (pe_lst (pa_cons pe_int (pa_cons pe_int (pa_cons (pe_op op_add (pe_op op_pow pe_int pe_int) pe_int) pa_nil)))) (pe_call GDr (hr.mono (by omega)) rfl gDr kDr bDr .nil pass0 (pa_cons (pv 0) (pa_cons pe_int pa_nil))) (fun _ _ => rfl)) pa_nil))) pa_nil))))) pss_nil)
        (pss_cons (ps_if (pt_cmpR op_lt (pv 2) pe_int (nomark _)) (pss_cons (ps_if (pt_cmpR op_eq (pe_call GDr (hr.mono (by omega)) rfl gDr kDr bDr .nil pass0 (pa_cons (pv 0) (pa_cons pe_int pa_nil))) pe_int (nomark _)) (pss_one (ps_ret (pe_tup (pa_cons pe_str (pa_cons (pe_ix ix_list (pe_lst (pa_cons pe_str (pa_cons pe_str (pa_cons pe_str (pa_cons pe_str (pa_cons pe_str pa_nil)))))) (pe_call GDr (hr.mono (by omega)) rfl gDr kDr bDr .nil pass0 (pa_cons (pv 0) (pa_cons pe_int pa_nil))) (fun _ _ => rfl)) pa_nil))))) pss_nil)
          (pss_one (ps_ret (pe_tup (pa_cons pe_str (pa_cons (pe_call GNm (hr.mono (by omega)) rfl gNm kNm bNm .nil pass0 (pa_cons (pv 0) pa_nil)) pa_nil)))))) pss_nil)
        (pss_cons (ps_if (pt_cmpR op_lt (pv 2) pe_int (nomark _)) (pss_one (ps_ret (pe_tup (pa_cons (pe_ix ix_list (pe_lst (pa_cons pe_str (pa_cons pe_str pa_nil))) (pe_op op_sub (pv 2) pe_int) (fun _ _ => rfl)) (pa_cons (pe_call GLs (hr.mono (by omega)) rfl gLs kLs bLs .nil pass0 (pa_cons (pv 0) (pa_cons (pe_op op_sub (pv 1) pe_int) pa_nil))) pa_nil))))) pss_nil)
        (pss_cons (ps_if (pt_cmpR op_eq (pv 2) pe_int (nomark _)) (pss_one (ps_ret (pe_tup (pa_cons pe_str (pa_cons (pe_call GLs (hr.mono (by omega)) rfl gLs kLs bLs .nil pass0 (pa_cons (pv 0) (pa_cons (pe_op op_sub (pv 1) pe_int) pa_nil))) (pa_cons (pe_call GLs (hr.mono (by omega)) rfl gLs kLs bLs .nil pass0 (pa_cons (pv 0) (pa_cons (pe_op op_sub (pv 1) pe_int) pa_nil))) (pa_cons (pe_call GLs (hr.mono (by omega)) rfl gLs kLs bLs .nil pass0 (pa_cons (pv 0) (pa_cons (pe_op op_sub (pv 1) pe_int) pa_nil))) pa_nil))))))) pss_nil)
        (pss_cons (ps_set (i := 3) scLs.nd rfl (.inl rfl) (pe_ix ix_list (pe_lst (pa_cons pe_str (pa_cons pe_str (pa_cons pe_str (pa_cons pe_str (pa_cons pe_str (pa_cons pe_str (pa_cons pe_str (pa_cons pe_str (pa_cons pe_str (pa_cons pe_str (pa_cons pe_str (pa_cons pe_str (pa_cons pe_str pa_nil)))))))))))))) (pe_call GDr (hr.mono (by omega)) rfl gDr kDr bDr .nil pass0 (pa_cons (pv 0) (pa_cons pe_int pa_nil))) (fun _ _ => rfl)))
        (pss_one (ps_ret (pe_tup (pa_cons (pv 3) (pa_cons (pe_call GLs (hr.mono (by omega)) rfl gLs kLs bLs .nil pass0 (pa_cons (pv 0) (pa_cons (pe_op op_sub (pv 1) pe_int) pa_nil))) (pa_cons (pe_call GLs (hr.mono (by omega)) rfl gLs kLs bLs .nil pass0 (pa_cons (pv 0) (pa_cons (pe_op op_sub (pv 1) pe_int) pa_nil))) pa_nil))))))))))))), ?_⟩
      obtain ⟨S, R, m, bu, rfl, hm, T, k⟩ := h
      have p4 : 4 ^ (n + 1) = 4 * 4 ^ n := by rw [Nat.pow_succ, Nat.mul_comm]
      have p40 : 1 ≤ 4 ^ n := Nat.one_le_pow _ _ (by decide)
      obtain ⟨rs, j, T0, l0⟩ := T
      obtain ⟨hS, hR, hf, hl, hp, hj, hne⟩ := T0
      refine ⟨_, rfl, S, _, _, _, rfl, rfl, sqH hS, rfl, _, _, rfl, rfl, _, rfl, S, _, _, _, rfl, rfl, hS, rfl, ?_⟩
      have T1 : St (bu - 1) (L2.upd H S (.lst [.ref R, .int j, .int 14, .int (bu - 1)])) S R m := ⟨rs, j, ⟨upd_same, by rw [upd_ne (Ne.symm hne)]; exact hR, hf, hl, hp, hj, hne⟩, l0⟩
      have s1 : Same (U S R H) (U S R (L2.upd H S (.lst [.ref R, .int j, .int 14, .int (bu - 1)]))) := U_off fun b n1 _ => upd_ne n1
      have kid : ∀ {i : Int} {Ha : Hp} {m1 : Nat} {b1 : Int} {Q' : VK} {E' : XK}, i = ((n : Nat) : Int) - 1 → 1 ≤ n → m1 + 9 * 4 ^ n ≤ 70000 → St b1 Ha S R m1 →
          (∀ (H' : Hp) (v : V) (t : Sm), St (b1 - t.size) H' S R (m1 + 9 * t.size) → Same (U S R Ha) (U S R H') → Dp K (U S R H') v t.d → t.drn → t.ht + 1 ≤ n → t.size ≤ 4 ^ n → ((t.isz : Int) ≤ b1 - 1 ∨ t.isz = 0) → (t.size = 1 ∨ ((t.size : Int) ≤ b1 + 2 * (n : Nat) - 2 ∧ 2 ≤ b1)) → Q' v H') → spLs K n ([.ref S, .int i] ++ []) Ha Q' E' := by
        intro i Ha m1 b1 Q' E' ei h1 hm1 Tk q
        obtain ⟨n', rfl⟩ : ∃ n', n = n' + 1 := ⟨n - 1, by omega⟩
        obtain rfl : i = ((n' : Nat) : Int) := by omega
        exact ⟨S, R, m1, b1, rfl, hm1, Tk, fun H' v t a b c d e f g h => q H' v t a b c d (by omega) f g (by rcases h with h | ⟨h, h'⟩; exact .inl h; exact .inr ⟨by omega, h'⟩)⟩
      refine ⟨_, rfl, drw (k := 10) (m := m) (H := L2.upd H S (.lst [.ref R, .int j, .int 14, .int (bu - 1)])) T1 (by omega) (by decide) (by decide) fun H2 r hr2 T2 s2 off2 => ?_⟩
      have s12 := s1.trans s2
      obtain ⟨rs2, j2, T20, l2⟩ := id T2
      have hS2 := T20.at_
      refine ⟨_, rfl, rfl, _, rfl, if_by (fun e => if_yes rfl ?_) (fun e0 => ⟨_, rfl, S, _, _, _, rfl, rfl, sqH hS2, rfl, _, _, rfl, rfl, _, rfl, if_by (fun e => if_yes rfl ?_) (fun e1 => ⟨_, rfl, _, _, rfl, rfl, _, rfl, if_by (fun e => ?_) (fun e2 => ?_)⟩)⟩)⟩
      rotate_left 3
      · have hn1 : 1 ≤ n := by
          rcases Nat.eq_zero_or_pos n with z | z
          · subst z
            revert e0
            decide +kernel
          · exact z
        have hb : 0 < bu - 1 := by
          have := of_decide_eq_false e1
          omega
        have r2 : 2 ≤ r := by
          have := of_decide_eq_false e2
          omega
        refine ⟨_, rfl, _, _, rfl, rfl, _, rfl, if_by (fun e => ?_) (fun e4 => ?_)⟩
        · refine ⟨_, rfl, drw (k := 2) T2 (by omega) (by decide) (by decide) fun H3 q hq T3 s3 _ => ⟨rfl, _, rfl, if_by (fun e => ?_) (fun e => ?_)⟩⟩
          · refine ⟨(by decide : 5 ≤ sizeLine), fun D nD => ?_⟩
            refine ⟨_, rfl, drw (k := 5) (T3.upd (T3.ne nD)) (by omega) (by decide) (by decide) fun H4 q4 hq4 T4 s4 off4 => ?_⟩
            have hD4 : H4 D = some (.lst (wPl.map V.str)) := by rw [off4 D (T3.ne nD).1 (T3.ne nD).2]; exact upd_same
            obtain ⟨x, mx, hx⟩ := pick_of wPl (r := q4) (by show q4 < 5; omega)
            refine ⟨D, _, _, _, rfl, rfl, SqL.of hD4, atI_nat hx, (by decide : 2 ≤ sizeLine), fun T0 nT => ?_⟩
            have z := T4.ne nT
            refine k _ _ (.of x) (((T4.upd z).le (by show m + 1 + 1 + 1 ≤ m + 9 * 1; omega)).eq (by show bu - 1 = bu - ((1 : Nat) : Int); omega)) ((((s12.trans s3).trans (U_new nD)).trans s4).trans (U_new nT)) (mk_tupU nT z (.cons (.str _) (.cons (.str _) .nil))) (.inr mx) (Nat.zero_le _) (by show 1 ≤ _; omega) (.inr rfl) (.inl rfl)
          · refine ⟨_, rfl, nmw T3 (by omega) fun H4 x T4 s4 h1 h2 => ⟨(by decide : 2 ≤ sizeLine), fun T0 nT => ?_⟩⟩
            have z := T4.ne nT
            exact k _ _ (.of x) (((T4.upd z).le (by show m + 1 + 1 + 7 ≤ m + 9 * 1; omega)).eq (by show bu - 1 = bu - ((1 : Nat) : Int); omega)) (((s12.trans s3).trans s4).trans (U_new nT)) (mk_tupU nT z (.cons (.str _) (.cons (.str _) .nil))) (.inl ⟨h1, h2⟩) (Nat.zero_le _) (by show 1 ≤ _; omega) (.inr rfl) (.inl rfl)
        have r4 : 4 ≤ r := by
          have := of_decide_eq_false e4
          omega
        refine ⟨_, rfl, _, _, rfl, rfl, _, rfl, if_by (fun e => ?_) (fun e6 => ?_)⟩
        · have r6 : r < 6 := by
            have := of_decide_eq_true e
            omega
          refine ⟨(by decide : 2 ≤ sizeLine), fun D nD => ?_⟩
          obtain ⟨x, mx, hx⟩ := pick_of (["minus", "no"] : List Str) (r := r - 4) (by show r - 4 < 2; omega)
          have hx' : atI ((["minus", "no"] : List Str).map V.str) (((r : Nat) : Int) - 4) = some (.str x) := by
            rw [show ((r : Nat) : Int) - 4 = ((r - 4 : Nat) : Int) by omega]
            exact atI_nat hx
          refine ⟨_, rfl, _, _, rfl, rfl, D, _, _, _, rfl, rfl, SqL.of upd_same, hx', _, rfl, _, rfl, _, _, rfl, rfl, kid rfl hn1 (by omega) (T2.upd (T2.ne nD)) fun H3 v t T3 s3 dt nt ht zt it jt => ⟨(by decide : 2 ≤ sizeLine), fun T0 nT => ?_⟩⟩
          have z := T3.ne nT
          refine k _ _ (.one x t) (((T3.upd z).le (by show _ ≤ m + 9 * (1 + t.size); omega)).eq (by show bu - 1 - t.size = bu - ((1 + t.size : Nat) : Int); omega)) (((s12.trans (U_new nD)).trans s3).trans (U_new nT)) (mk_tupU nT z (.cons (.str _) (.cons dt .nil))) ⟨?_, nt⟩ (by show 1 + t.ht ≤ n; omega) (by show 1 + t.size ≤ _; omega) (.inl (by show ((1 + t.isz : Nat) : Int) ≤ bu - 1; omega)) (.inr ⟨by show ((1 + t.size : Nat) : Int) ≤ bu + 2 * (n : Nat); omega, by omega⟩)
          rcases List.mem_cons.mp mx with e | mx
          · exact .inl e
          · exact .inr (List.mem_singleton.mp mx)
        refine ⟨_, rfl, rfl, _, rfl, if_by (fun e => ?_) (fun e7 => ?_)⟩
        · refine ⟨_, rfl, _, rfl, _, _, rfl, rfl, kid rfl hn1 (by omega) T2 fun H3 v t T3 s3 dt nt ht zt it jt => ?_⟩
          refine ⟨_, rfl, _, rfl, _, _, rfl, rfl, kid rfl hn1 (by omega) T3 fun H4 v4 t4 T4 s4 dt4 nt4 ht4 zt4 it4 jt4 => ?_⟩
          refine ⟨_, rfl, _, rfl, _, _, rfl, rfl, kid rfl hn1 (by omega) T4 fun H5 v5 t5 T5 s5 dt5 nt5 ht5 zt5 it5 jt5 => ⟨(by decide : 4 ≤ sizeLine), fun T0 nT => ?_⟩⟩
          have z := T5.ne nT
          have i1 := isz_size t
          have i2 := isz_size t4
          have i3 := isz_size t5
          exact k _ _ (.three "choose" t t4 t5) (((T5.upd z).le (by show _ ≤ m + 9 * (1 + t.size + t4.size + t5.size); omega)).eq (by show bu - 1 - t.size - t4.size - t5.size = bu - ((1 + t.size + t4.size + t5.size : Nat) : Int); omega)) ((((s12.trans s3).trans s4).trans s5).trans (U_new nT))
            (mk_tupU nT z (.cons (.str _) (.cons (dp_same (s4.trans s5) dt) (.cons (dp_same s5 dt4) (.cons dt5 .nil))))) ⟨rfl, nt, nt4, nt5⟩ (by show 1 + max t.ht (max t4.ht t5.ht) ≤ n; omega) (by show 1 + t.size + t4.size + t5.size ≤ _; omega) (.inl (by show ((1 + t.isz + t4.isz + t5.isz : Nat) : Int) ≤ bu - 1; omega)) (.inr ⟨by show ((1 + t.size + t4.size + t5.size : Nat) : Int) ≤ bu + 2 * (n : Nat); omega, by omega⟩)
        refine ⟨(by decide : 13 ≤ sizeLine), fun D nD => ?_⟩
        refine ⟨_, rfl, drw (k := 13) (T2.upd (T2.ne nD)) (by omega) (by decide) (by decide) fun H3 q hq T3 s3 off3 => ?_⟩
        have hD3 : H3 D = some (.lst ((["*", "/", "^", "+", "-", "<", "<=", ">", ">=", "==", "!=", "&&", "||"] : List Str).map V.str)) := by rw [off3 D (T2.ne nD).1 (T2.ne nD).2]; exact upd_same
        obtain ⟨x, mx, hx⟩ := pick_of (["*", "/", "^", "+", "-", "<", "<=", ">", ">=", "==", "!=", "&&", "||"] : List Str) (r := q) (by show q < 13; omega)
        have ox : isOp x = true := (by decide +kernel : ∀ x ∈ (["*", "/", "^", "+", "-", "<", "<=", ">", ">=", "==", "!=", "&&", "||"] : List Str), isOp x = true) x mx
        refine ⟨D, _, _, _, rfl, rfl, SqL.of hD3, atI_nat hx, ?_⟩
        refine ⟨_, rfl, _, rfl, _, rfl, _, _, rfl, rfl, kid rfl hn1 (by omega) T3 fun H4 v4 t4 T4 s4 dt4 nt4 ht4 zt4 it4 jt4 => ?_⟩
        refine ⟨_, rfl, _, rfl, _, _, rfl, rfl, kid rfl hn1 (by omega) T4 fun H5 v5 t5 T5 s5 dt5 nt5 ht5 zt5 it5 jt5 => ⟨(by decide : 3 ≤ sizeLine), fun T0 nT => ?_⟩⟩
        have z := T5.ne nT
        have i2 := isz_size t4
        have i3 := isz_size t5
        exact k _ _ (.two x t4 t5) (((T5.upd z).le (by show _ ≤ m + 9 * (1 + t4.size + t5.size); omega)).eq (by show bu - 1 - t4.size - t5.size = bu - ((1 + t4.size + t5.size : Nat) : Int); omega)) (((((s12.trans (U_new nD)).trans s3).trans s4).trans s5).trans (U_new nT))
          (mk_tupU nT z (.cons (.str _) (.cons (dp_same s5 dt4) (.cons dt5 .nil)))) ⟨ox, nt4, nt5⟩ (by show 1 + max t4.ht t5.ht ≤ n; omega) (by show 1 + t4.size + t5.size ≤ _; omega) (.inl (by show ((1 + t4.isz + t5.isz : Nat) : Int) ≤ bu - 1; omega)) (.inr ⟨by show ((1 + t4.size + t5.size : Nat) : Int) ≤ bu + 2 * (n : Nat); omega, by omega⟩)
      all_goals
        refine ⟨_, rfl, _, _, rfl, rfl, ⟨by decide, by decide, by decide⟩, _, _, rfl, rfl, (by decide : 3 ≤ sizeLine), fun D nD => ?_⟩
        refine ⟨_, rfl, drw (k := 3) (T2.upd (T2.ne nD)) (by omega) (by decide) (by decide) fun H3 q hq T3 s3 off3 => ?_⟩
        have hD3 : H3 D = some (.lst ([3, 12, 10 ^ 18 + 1].map V.int)) := by rw [off3 D (T2.ne nD).1 (T2.ne nD).2]; exact upd_same
        obtain ⟨c, hc, c0, c1⟩ : ∃ c : Int, ([3, 12, 10 ^ 18 + 1].map V.int)[q]? = some (.int c) ∧ 0 < c ∧ c ≤ 10 ^ 18 + 1 := by
          rcases q with _ | _ | _ | q
          · exact ⟨_, rfl, by decide, by decide⟩
          · exact ⟨_, rfl, by decide, by decide⟩
          · exact ⟨_, rfl, by decide, by decide⟩
          · omega
        refine ⟨D, _, _, _, rfl, rfl, SqL.of hD3, atI_nat hc, drw (k := c) T3 (by omega) c0 (Int.le_trans c1 (by decide)) fun H4 q4 hq4 T4 s4 _ => ⟨(by decide : 2 ≤ sizeLine), fun T0 nT => ?_⟩⟩
        have z := T4.ne nT
        exact k _ _ (.num (q4 : Nat)) (((T4.upd z).le (by show m + 1 + 1 + 1 ≤ m + 9 * 1; omega)).eq (by show bu - 1 = bu - ((1 : Nat) : Int); omega)) ((((s12.trans (U_new nD)).trans s3).trans s4).trans (U_new nT)) (mk_tupU nT z (.cons (.str _) (.cons (.int _) .nil))) ⟨by omega, by omega⟩ (Nat.zero_le _) (by show 1 ≤ _; omega) (.inr rfl) (.inl rfl)
end
end Qb
end PySem
namespace PySem
namespace Qb
open PySem.W PySem.Calls PyProof.Rows L2
/-! # texts that are drawn -/
theorem strOk_lt {x : Str} (h : ∀ c ∈ cs x, c < 1114112) : PyData.strOk x = true := by
  unfold PyData.strOk
  rw [Array.all_eq_true_iff_forall_mem]
  intro c m
  exact decide_eq_true (h c (by simpa [cs] using m))
/-- items of which the first is a written text, the others want a token -/
theorem pa_strT {X : Cx} {c : Str} {j : Nat} {p : Pos} {es : List Expr} {ta : TA} (hr : L2.PAT X es ta) (hs : starEach (.Constant (.str c) j p :: es) X.env = (false, eval (.Constant (.str c) j p) X.env) :: starEach es X.env := by rfl) :
    PA X (.Constant (.str c) j p :: es) (tCons (tC (.str c)) ta) := by
  refine ⟨fun pos pins s σ H Q I h => ?_⟩
  rw [hs]
  show wpAny _ _ (spliced ((false, eval (.Constant (.str c) j p) X.env) :: backTo pos (starEach es X.env))) _ _ s
  refine Calls.spliced_cons (Calls.Constant_str ?_)
  exact thn (hr pos pins _ σ H _ (by show 1 ≤ s.toks + 1; omega) (I.tok (s.toks + 1)) h) fun us s2 ⟨xs, H2, I2, r2, q2⟩ => ⟨V.str c :: xs, H2, I2, .cons ⟨_, rfl⟩ r2, q2⟩
theorem repl_one (a b : Nat) : ∀ l : List Nat, PySem.StrLaws.replL [a] [b] l = l.map fun c => if c = a then b else c
  | [] => PySem.StrLaws.replL_nil
  | c :: r => by
    by_cases h : c = a
    · rw [PySem.StrLaws.replL_hit (by simp) (by rw [h]; rfl), List.map_cons, if_pos h]
      show [b] ++ PySem.StrLaws.replL [a] [b] r = _
      rw [repl_one a b r]
      rfl
    · rw [PySem.StrLaws.replL_miss (by simpa using h), List.map_cons, if_neg h, repl_one a b r]
theorem repl_cs {x : Str} {y z : Str} {a b : Nat} (hy : cs y = [a]) (hz : cs z = [b]) : cs (Txt.replace x y z) = (cs x).map fun c => if c = a then b else c := by
  have l : 1 ≤ y.length := by rw [len_cs, hy]; exact Nat.le_refl 1
  have e : cs (Txt.replace x y z) = PySem.StrLaws.replL (cs y) (cs z) (cs x) := PySem.StrLaws.replace_list l
  rw [e, hy, hz, repl_one]
theorem repl_len {x : Str} {y z : Str} {a b : Nat} (hy : cs y = [a]) (hz : cs z = [b]) : (Txt.replace x y z).length = x.length := by
  rw [len_cs, repl_cs hy hz, List.length_map, len_cs]
def okT (x : Str) : Prop := ∀ c ∈ cs x, c < 128
theorem okT.str {x : Str} (h : okT x) : PyData.strOk x = true := strOk_lt fun c m => Nat.lt_trans (h c m) (by decide)
theorem okT.tx {x : Str} (h : okT x) (l : x.length ≤ 20) : Tx x := ⟨l, h.str⟩
theorem okT.repl {x : Str} (h : okT x) {y z : Str} {a b : Nat} (hy : cs y = [a]) (hz : cs z = [b]) (hb : b < 128) : okT (Txt.replace x y z) := fun c m => by
  rw [repl_cs hy hz] at m
  obtain ⟨d, md, rfl⟩ := List.mem_map.mp m
  split
  · exact hb
  · exact h d md
theorem held_no {x : Str} : ¬ 39 ∈ cs (Txt.replace x "'" "~") := fun m => by
  rw [repl_cs (a := 39) (b := 126) (by decide +kernel) (by decide +kernel)] at m
  obtain ⟨d, md, e⟩ := List.mem_map.mp m
  split at e
  · cases e
  · rename_i h
    exact h e
theorem mark_no {x : Str} : Txt.replace x "\n" "'" ≠ "\n" := fun z => by
  have e := congrArg cs z
  rw [repl_cs (a := 10) (b := 39) (by decide +kernel) (by decide +kernel)] at e
  have m : (10 : Nat) ∈ (cs x).map fun c => if c = 10 then 39 else c := by rw [e]; decide +kernel
  obtain ⟨d, md, e⟩ := List.mem_map.mp m
  split at e
  · cases e
  · rename_i h
    exact h e
theorem name_okT {x : Str} (h : isNameB (cs x) = true) : okT x := fun c m => by
  rw [name_nm] at h
  have hm : ∀ c ∈ cs x, c ∈ namC := by
    cases e : cs x with
    | nil => intro c m; cases m
    | cons d r =>
      rw [e] at h
      have h : (decide (d ∈ staC) && r.all fun d => decide (d ∈ namC)) = true := h
      rw [Bool.and_eq_true, List.all_eq_true] at h
      intro c m
      rcases List.mem_cons.mp m with rfl | m
      · exact (by decide +kernel : ∀ c ∈ staC, c ∈ namC) c (of_decide_eq_true h.1)
      · exact of_decide_eq_true (h.2 c m)
  exact (by decide +kernel : ∀ c ∈ namC, c < 128) c (hm c m)
theorem sgw {S R : Addr} {H : Hp} {n : Nat} {sm : Str} {lo hi : Nat} {bu : Int} {Q : VK} {E : XK} (T : St bu H S R n) (l1 : lo ≤ hi) (l2 : hi ≤ 20) (l3 : 0 < sm.length) (l4 : sm.length ≤ 500) (l5 : n ≤ 90000) (lt : ∀ c ∈ cs sm, c < 128)
    (q : ∀ (H' : Hp) (x : Str), St bu H' S R (n + 1 + hi) → Same (U S R H) (U S R H') → (∀ c ∈ cs x, c ∈ cs sm) → okT x → lo ≤ x.length → x.length ≤ hi → Q (.str x) H') : spSig ([.ref S, .str sm, .int lo, .int hi] ++ []) H Q E :=
  ⟨S, R, n, sm, lo, hi, bu, rfl, l1, l2, l3, l4, l5, T, fun H' x T' s hc h1 h2 => q H' x T' s hc (fun c m => lt c (hc c m)) h1 h2⟩
def DrwT (sp : Sp) : Prop := ∀ (S R : Addr) (H : Hp) (m : Nat) (bu k : Int) (Q : VK) (E : XK), St bu H S R m → m < 90000 → 0 < k → k ≤ 1000 → (∀ (H' : Hp) (r : Nat), (r : Int) < k → St bu H' S R (m + 1) → Same (U S R H) (U S R H') → (∀ b, b ≠ S → b ≠ R → H' b = H b) → Q (.int (r : Nat)) H') → sp ([.ref S, .int k] ++ []) H Q E
theorem drwT : DrwT spDraw := fun S R H m bu k Q E T hm h0 h1 q => drw T hm h0 (le30 h1) q
def SgwT (sp : Sp) : Prop := ∀ (S R : Addr) (H : Hp) (n : Nat) (sm : Str) (lo hi : Nat) (bu : Int) (Q : VK) (E : XK), St bu H S R n → lo ≤ hi → hi ≤ 20 → 0 < sm.length → sm.length ≤ 500 → n ≤ 90000 → (∀ c ∈ cs sm, c < 128) →
    (∀ (H' : Hp) (x : Str), St bu H' S R (n + 1 + hi) → Same (U S R H) (U S R H') → (∀ c ∈ cs x, c ∈ cs sm) → okT x → lo ≤ x.length → x.length ≤ hi → Q (.str x) H') → sp ([.ref S, .str sm, .int lo, .int hi] ++ []) H Q E
theorem sgwT : SgwT spSig := fun S R H n sm lo hi bu Q E T l1 l2 l3 l4 l5 lt q => sgw T l1 l2 l3 l4 l5 lt q
def spAn : Sp := fun vs H Q _ => ∃ (S R : Addr) (n : Nat) (bu : Int) (lo hi : Nat), vs = [.ref S, .int lo, .int hi] ∧ lo ≤ hi ∧ hi ≤ 20 ∧ n ≤ 80000 ∧ St bu H S R n ∧
  ∀ H' x, St bu H' S R (n + 2 + hi) → Same (U S R H) (U S R H') → okT x → lo ≤ x.length → x.length ≤ hi → Q (.str x) H'
abbrev wPlc : List Str := ["0", "1", "9", "10", "307", "#", "?", "@", "*"]
def spLp : Sp := fun vs H Q _ => ∃ (S R : Addr) (n : Nat) (bu : Int), vs = [.ref S] ∧ n ≤ 80000 ∧ St bu H S R n ∧ ∀ H' x, St bu H' S R (n + 1) → Same (U S R H) (U S R H') → x ∈ wPlc → Q (.str x) H'
abbrev wBr : List Str := ["if", "then", "esac", "in", "do", "!", "x", "x=", "_1=a", "1=", "2", "0", "-", "*"]
def spLb : Sp := fun vs H Q _ => ∃ (S R : Addr) (n : Nat) (bu : Int), vs = [.ref S] ∧ n ≤ 80000 ∧ St bu H S R n ∧ ∀ H' x, St bu H' S R (n + 8) → Same (U S R H) (U S R H') → isBareB (cs x) = true → okT x → x.length ≤ 6 → Q (.str x) H'
/-! what is drawn beside lists that are still being made -/
def UL (l : List Addr) (S R : Addr) (H : Hp) : Hp := fun b => if b ∈ l then none else U S R H b
theorem UL_same {l : List Addr} {S R : Addr} {H H' : Hp} (s : Same (U S R H) (U S R H')) : Same (UL l S R H) (UL l S R H') := fun b o h => by
  unfold UL at h ⊢
  by_cases e : b ∈ l
  · rw [if_pos e] at h; cases h
  · rw [if_neg e] at h ⊢
    exact s b o h
theorem UL_back {l : List Addr} {S R : Addr} {H : Hp} : Same (UL l S R H) (U S R H) := fun b o h => by
  unfold UL at h
  by_cases e : b ∈ l
  · rw [if_pos e] at h; cases h
  · rw [if_neg e] at h
    exact h
theorem UL_cons {D : Addr} {l : List Addr} {S R : Addr} {H : Hp} : Same (UL (D :: l) S R H) (UL l S R H) := fun b o h => by
  unfold UL at h ⊢
  by_cases e : b ∈ D :: l
  · rw [if_pos e] at h; cases h
  · rw [if_neg e] at h
    rw [if_neg (fun z : b ∈ l => e (.tail _ z))]
    exact h
theorem UL_set {l : List Addr} {S R b : Addr} {H : Hp} {o : HO} (h : H b = some o) (n1 : b ≠ S) (n2 : b ≠ R) (nl : ¬ b ∈ l) : UL l S R H b = some o := by
  unfold UL
  rw [if_neg nl]
  exact U_set h n1 n2
theorem UL_upd {D : Addr} {l : List Addr} {S R : Addr} {H : Hp} {o : HO} : Same (UL (D :: l) S R H) (UL (D :: l) S R (L2.upd H D o)) := fun b u h => by
  have h0 := h
  unfold UL at h
  by_cases e : b ∈ D :: l
  · rw [if_pos e] at h; cases h
  · rw [if_neg e] at h
    obtain ⟨n1, n2, h1⟩ := U_get h
    exact UL_set (by rw [upd_ne fun z => e (by rw [z]; exact .head _)]; exact h1) n1 n2 e
theorem UL_new {l : List Addr} {S R D : Addr} {H : Hp} {o : HO} (h : H D = none) : Same (UL l S R H) (UL l S R (L2.upd H D o)) := UL_same (U_new h)
/-- lists that are still being made -/
def Lsts (l : List Addr) (S R : Addr) (H : Hp) : Prop := ∀ b ∈ l, ∃ ys, U S R H b = some (.lst ys)
theorem Lsts.same {l : List Addr} {S R : Addr} {H H' : Hp} (h : Lsts l S R H) (s : Same (U S R H) (U S R H')) : Lsts l S R H' := fun b m => by
  obtain ⟨ys, e⟩ := h b m
  exact ⟨ys, s _ _ e⟩
theorem Lsts.no {l : List Addr} {S R D : Addr} {H : Hp} (h : Lsts l S R H) (n : H D = none) : ¬ D ∈ l := fun m => by
  obtain ⟨ys, e⟩ := h D m
  rw [(U_get e).2.2] at n
  cases n
theorem mk_tupL {K : Frag} {l : List Addr} {S R T : Addr} {H : Hp} {vs : List V} {ds : List PyData} (n : H T = none) (ne : T ≠ S ∧ T ≠ R) (nl : ¬ T ∈ l) (h : DpAll K (UL l S R H) vs ds) : Dp K (UL l S R (L2.upd H T (.tup vs))) (.ref T) (.tuple ds) :=
  .tup (SqT.of (UL_set upd_same ne.1 ne.2 nl)) (dpAll_same (UL_new n) h)
theorem mk_lstL {K : Frag} {l : List Addr} {S R T : Addr} {H : Hp} {vs : List V} {ds : List PyData} (n : H T = none) (ne : T ≠ S ∧ T ≠ R) (nl : ¬ T ∈ l) (h : DpAll K (UL l S R H) vs ds) : Dp K (UL l S R (L2.upd H T (.lst vs))) (.ref T) (.list ds) :=
  .lst (SqL.of (UL_set upd_same ne.1 ne.2 nl)) (dpAll_same (UL_new n) h)
/-- a list that is being made -/
def MkU (K : Frag) (l : List Addr) (S R D : Addr) (ds : List PyData) (H : Hp) : Prop := D ≠ S ∧ D ≠ R ∧ ¬ D ∈ l ∧ ∃ ys, H D = some (.lst ys) ∧ DpAll K (UL (D :: l) S R H) ys ds
theorem MkU.start {K : Frag} {l : List Addr} {S R D : Addr} {H : Hp} (ne : D ≠ S ∧ D ≠ R) (nl : ¬ D ∈ l) : MkU K l S R D [] (L2.upd H D (.lst [])) := ⟨ne.1, ne.2, nl, [], upd_same, .nil⟩
theorem MkU.same {K : Frag} {l : List Addr} {S R D : Addr} {ds : List PyData} {H H' : Hp} (h : MkU K l S R D ds H) (s : Same (U S R H) (U S R H')) : MkU K l S R D ds H' := by
  obtain ⟨n1, n2, nl, ys, hD, al⟩ := h
  exact ⟨n1, n2, nl, ys, (U_get (s _ _ (U_set hD n1 n2))).2.2, dpAll_same (UL_same s) al⟩
theorem MkU.add {K : Frag} {l : List Addr} {S R D : Addr} {ds : List PyData} {H : Hp} (h : MkU K l S R D ds H) {u : V} {d : PyData} (r : Dp K (UL (D :: l) S R H) u d) :
    ∃ ys, H D = some (.lst ys) ∧ ys.length = ds.length ∧ MkU K l S R D (ds ++ [d]) (L2.upd H D (.lst (ys ++ [u]))) := by
  obtain ⟨n1, n2, nl, ys, hD, al⟩ := h
  exact ⟨ys, hD, dpLen al, n1, n2, nl, _, upd_same, dpApp (dpAll_same UL_upd al) (.cons (dp_same UL_upd r) .nil)⟩
theorem MkU.fin {K : Frag} {l : List Addr} {S R D : Addr} {ds : List PyData} {H : Hp} (h : MkU K l S R D ds H) : Dp K (UL l S R H) (.ref D) (.list ds) := by
  obtain ⟨n1, n2, nl, ys, hD, al⟩ := h
  exact .lst (SqL.of (UL_set hD n1 n2 nl)) (dpAll_same UL_cons al)
theorem MkU.lsts {K : Frag} {l : List Addr} {S R D : Addr} {ds : List PyData} {H : Hp} (h : MkU K l S R D ds H) (g : Lsts l S R H) : Lsts (D :: l) S R H := fun b m => by
  obtain ⟨n1, n2, nl, ys, hD, al⟩ := h
  rcases List.mem_cons.mp m with rfl | m
  · exact ⟨ys, U_set hD n1 n2⟩
  · exact g b m
/-- a script that is drawn: one command, or none -/
def spLsc (K : Frag) : Sp := fun vs H Q _ => ∃ (l : List Addr) (S R : Addr) (n : Nat) (bu d : Int), vs = [.ref S, .int d, .int 0] ∧ n ≤ 80000 ∧ St bu H S R n ∧ Lsts l S R H ∧
  ∀ H' v cs, St bu H' S R (n + 1) → Same (U S R H) (U S R H') → Dp K (UL l S R H') v (.list cs) → (cs = [] ∨ cs = [cmdD true]) → Q v H'
theorem bare_of {x : Str} (h1 : cs x ≠ []) (h2 : ∀ c ∈ cs x, c ∈ cs bareS) : isBareB (cs x) = true := by
  unfold isBareB
  rw [Bool.and_eq_true, List.all_eq_true]
  exact ⟨by cases e : cs x with | nil => exact absurd e h1 | cons _ _ => rfl, fun c m => decide_eq_true (h2 c m)⟩
section
variable {P : Program} {w : World} {K : Frag} {mg : Str → Option Value} {base : Heap}
abbrev sAn : Stmt := top 67
abbrev nAn : List Str := ["_law_state_here", "_law_least", "_law_most", "_law_some"]
theorem scAn : FnScope nAn ["_law_state_here", "_law_least", "_law_most"] (defScope sAn) := ⟨rfl, rfl, rfl, by decide +kernel, rfl, by decide +kernel, by decide +kernel⟩
theorem has_An {f : Addr} {fd : FuncData}  (F : Fun K "_law_any" "_law_any" sAn f fd) (g : mg "_law_any" = some (.ref f)) (B : Blt mg) {spD : Sp} (drw : DrwT spD) (hDr : Has P w K mg base 1 "_law_draw" ["_law_state_here", "_law_many"] spD) {spS : Sp} (sgw : SgwT spS) (hSi : Has P w K mg base 2 "_law_signs" ["_law_state_here", "_law_some", "_law_least", "_law_most"] spS) :
    Has P w K mg base 3 "_law_any" ["_law_state_here", "_law_least", "_law_most"] spAn := by
  obtain ⟨fDr, dDr, gDr, kDr, bDr, GDr⟩ := hDr
  obtain ⟨fSi, dSi, gSi, kSi, bSi, GSi⟩ := hSi
  refine has_of F g (F.binds (ps := ["_law_state_here", "_law_least", "_law_most"]) fun _ _ _ _ _ _ us hl => match us, hl with | [_, _, _], _ => rfl) (F.ok scAn (fun vs H Q E h => ?_) (fun cdv A outer s H vs Q E hr h => ?_))
  · obtain ⟨S, R, n, bu, lo, hi, rfl, _⟩ := h
    rfl
  · refine ⟨_, (pss_cons (ps_if (pt_cmpR op_eq (pe_call GDr (hr.mono (by decide)) rfl gDr kDr bDr .nil pass0 (pa_cons (pv 0) (pa_cons pe_int pa_nil))) pe_int (nomark _)) (pss_one (ps_ret (pe_call GSi hr rfl gSi kSi bSi .nil pass0 (pa_cons (pv 0) (pa_cons pe_str (pa_cons (pv 1) (pa_cons (pv 2) pa_nil))))))) pss_nil)
        (pss_cons (ps_set (i := 3) scAn.nd rfl (.inl rfl) pe_str)
        (pss_one (ps_ret (pe_call GSi hr rfl gSi kSi bSi .nil pass0 (pa_cons (pv 0) (pa_cons (pv 3) (pa_cons (pv 1) (pa_cons (pv 2) pa_nil))))))))), ?_⟩
    obtain ⟨S, R, n, bu, lo, hi, rfl, l1, l2, hn, T, k⟩ := h
    refine ⟨_, rfl, drw _ _ _ n _ 3 _ _ T (by omega) (by decide) (by decide) fun H1 r hr1 T1 s1 _ => ⟨rfl, _, rfl, if_by (fun e => ?_) (fun e => ?_)⟩⟩
    · exact ⟨_, rfl, _, rfl, _, rfl, sgw _ _ _ (n + 1) _ _ _ _ _ _ T1 l1 l2 (by decide +kernel) (by decide +kernel) (by omega) (by decide +kernel) fun H2 x T2 s2 _ hx h1 h2 => k H2 x (T2.le (by omega)) (s1.trans s2) hx h1 h2⟩
    · exact ⟨_, rfl, _, rfl, _, rfl, _, rfl, sgw _ _ _ (n + 1) _ _ _ _ _ _ T1 l1 l2 (by decide +kernel) (by decide +kernel) (by omega) (by decide +kernel) fun H2 x T2 s2 _ hx h1 h2 => k H2 x (T2.le (by omega)) (s1.trans s2) hx h1 h2⟩
abbrev sLp : Stmt := top 69
abbrev nLp : List Str := ["_law_state_here"]
theorem scLp : FnScope nLp ["_law_state_here"] (defScope sLp) := ⟨rfl, rfl, rfl, by decide +kernel, rfl, by decide +kernel, by decide +kernel⟩
theorem has_Lp {f : Addr} {fd : FuncData}  (F : Fun K "_law_place" "_law_place" sLp f fd) (g : mg "_law_place" = some (.ref f)) (B : Blt mg) {spD : Sp} (drw : DrwT spD) (hDr : Has P w K mg base 1 "_law_draw" ["_law_state_here", "_law_many"] spD) :
    Has P w K mg base 2 "_law_place" ["_law_state_here"] spLp := by
  obtain ⟨fDr, dDr, gDr, kDr, bDr, GDr⟩ := hDr
  refine has_of F g (F.binds (ps := ["_law_state_here"]) fun _ _ _ _ _ _ us hl => match us, hl with | [_], _ => rfl) (F.ok scLp (fun vs H Q E h => ?_) (fun cdv A outer s H vs Q E hr h => ?_))
  · obtain ⟨S, R, n, bu, rfl, _⟩ := h
    rfl
  · refine ⟨_, (pss_one (ps_ret (pe_ix ix_list (pe_lst (pa_cons pe_str (pa_cons pe_str (pa_cons pe_str (pa_cons pe_str (pa_cons pe_str (pa_cons pe_str (pa_cons pe_str (pa_cons pe_str (pa_cons pe_str pa_nil)))))))))) (pe_call GDr hr rfl gDr kDr bDr .nil pass0 (pa_cons (pv 0) (pa_cons pe_int pa_nil))) (fun _ _ => rfl)))), ?_⟩
    obtain ⟨S, R, n, bu, rfl, hn, T, k⟩ := h
    refine ⟨(by decide : 9 ≤ sizeLine), fun L nL => ⟨_, rfl, drw _ _ _ n _ 9 _ _ (T.upd (T.ne nL)) (by omega) (by decide) (by decide) fun H1 r hr1 T1 s1 off => ?_⟩⟩
    have hL : H1 L = some (.lst (wPlc.map V.str)) := by
      rw [off L (T.ne nL).1 (T.ne nL).2]
      exact upd_same
    obtain ⟨x, mx, hx⟩ := pick_of wPlc (r := r) (by show r < 9; omega)
    exact ⟨L, _, _, _, rfl, rfl, SqL.of hL, atI_nat hx, k H1 x T1 ((U_new nL).trans s1) mx⟩
abbrev sLb : Stmt := top 70
abbrev nLb : List Str := ["_law_state_here", "_law_words", "_law_pick", "_law_some"]
theorem scLb : FnScope nLb ["_law_state_here"] (defScope sLb) := ⟨rfl, rfl, rfl, by decide +kernel, rfl, by decide +kernel, by decide +kernel⟩
theorem has_Lb {f : Addr} {fd : FuncData}  (F : Fun K "_law_bare" "_law_bare" sLb f fd) (g : mg "_law_bare" = some (.ref f)) (B : Blt mg) {spD : Sp} (drw : DrwT spD) (hDr : Has P w K mg base 1 "_law_draw" ["_law_state_here", "_law_many"] spD) {spS : Sp} (sgw : SgwT spS) (hSi : Has P w K mg base 2 "_law_signs" ["_law_state_here", "_law_some", "_law_least", "_law_most"] spS) :
    Has P w K mg base 3 "_law_bare" ["_law_state_here"] spLb := by
  obtain ⟨fDr, dDr, gDr, kDr, bDr, GDr⟩ := hDr
  obtain ⟨fSi, dSi, gSi, kSi, bSi, GSi⟩ := hSi
  refine has_of F g (F.binds (ps := ["_law_state_here"]) fun _ _ _ _ _ _ us hl => match us, hl with | [_], _ => rfl) (F.ok scLb (fun vs H Q E h => ?_) (fun cdv A outer s H vs Q E hr h => ?_))
  · obtain ⟨S, R, n, bu, rfl, _⟩ := h
    rfl
  · refine ⟨_, (pss_cons (ps_set (i := 1) scLb.nd rfl (.inl rfl) (pe_lst (pa_cons pe_str (pa_cons pe_str (pa_cons pe_str (pa_cons pe_str (pa_cons pe_str (pa_cons pe_str (pa_cons pe_str (pa_cons pe_str (pa_cons pe_str (pa_cons pe_str (pa_cons pe_str (pa_cons pe_str (pa_cons pe_str (pa_cons pe_str pa_nil))))))))))))))))
        (pss_cons (ps_set (i := 2) scLb.nd rfl (.inl rfl) (pe_call GDr (hr.mono (by decide)) rfl gDr kDr bDr .nil pass0 (pa_cons (pv 0) (pa_cons pe_int pa_nil))))
        (pss_cons (ps_if (pt_cmpR op_lt (pv 2) pe_int (nomark _)) (pss_one (ps_ret (pe_ix ix_list (pv 1) (pv 2) (fun _ _ => rfl)))) pss_nil)
        (pss_cons (ps_set (i := 3) scLb.nd rfl (.inl rfl) pe_str)
        (pss_one (ps_ret (pe_call GSi hr rfl gSi kSi bSi .nil pass0 (pa_cons (pv 0) (pa_cons (pv 3) (pa_cons pe_int (pa_cons pe_int pa_nil))))))))))), ?_⟩
    obtain ⟨S, R, n, bu, rfl, hn, T, k⟩ := h
    refine ⟨(by decide : 14 ≤ sizeLine), fun L nL => ?_⟩
    have hU := U_new (S := S) (R := R) (o := .lst (wBr.map V.str)) nL
    refine ⟨_, rfl, drw _ _ _ n _ 24 _ _ (T.upd (T.ne nL)) (by omega) (by decide) (by decide) fun H1 r hr1 T1 s1 off => ?_⟩
    have hL : H1 L = some (.lst (wBr.map V.str)) := by
      rw [off L (T.ne nL).1 (T.ne nL).2]
      exact upd_same
    refine ⟨_, rfl, _, _, rfl, rfl, _, rfl, if_by (fun e => ?_) (fun e => ?_)⟩
    · have hlt : r < 14 := by
        have := of_decide_eq_true e
        omega
      obtain ⟨x, mx, hx⟩ := pick_of wBr (r := r) hlt
      have ok : ∀ x ∈ wBr, isBareB (cs x) = true ∧ (∀ c ∈ cs x, c < 128) ∧ x.length ≤ 6 := by decide +kernel
      exact ⟨_, rfl, _, rfl, L, _, _, _, rfl, rfl, SqL.of hL, atI_nat hx, k H1 x (T1.le (by omega)) (hU.trans s1) (ok x mx).1 (ok x mx).2.1 (ok x mx).2.2⟩
    · refine ⟨_, rfl, _, rfl, sgw _ _ _ (n + 1) _ 1 6 _ _ _ T1 (by decide) (by decide) (by decide +kernel) (by decide +kernel) (by omega) (by decide +kernel) fun H4 y T4 s4 hy ok l1 ly => ?_⟩
      have e1 : ∀ c ∈ cs ("abcdefghijklmnopqrstuvwxyzABCDEFGHIJKLMNOPQRSTUVWXYZ0123456789./_-,:+@=*?[]!~" : Str), c ∈ cs bareS := by decide +kernel
      refine k H4 y (T4.le (by omega)) ((hU.trans s1).trans s4) (bare_of (fun z => ?_) fun c m => e1 c (hy c m)) ok ly
      rw [len_cs, z] at l1
      cases l1
abbrev sLsc : Stmt := top 75
abbrev nLsc : List Str := ["_law_state_here", "_law_deep", "_law_least", "_law_k"]
theorem scLsc : FnScope nLsc ["_law_state_here", "_law_deep", "_law_least"] (defScope sLsc) := ⟨rfl, rfl, rfl, by decide +kernel, rfl, by decide +kernel, by decide +kernel⟩
theorem has_Lsc {f : Addr} {fd : FuncData}  (F : Fun K "_law_script" "_law_script" sLsc f fd) (g : mg "_law_script" = some (.ref f)) (B : Blt mg) {spD : Sp} (drw : DrwT spD) (hDr : Has P w K mg base 1 "_law_draw" ["_law_state_here", "_law_many"] spD) :
    Has P w K mg base 2 "_law_script" ["_law_state_here", "_law_deep", "_law_least"] (spLsc K) := by
  obtain ⟨fDr, dDr, gDr, kDr, bDr, GDr⟩ := hDr
  refine has_of F g (F.binds (ps := ["_law_state_here", "_law_deep", "_law_least"]) fun _ _ _ _ _ _ us hl => match us, hl with | [_, _, _], _ => rfl) (F.ok scLsc (fun vs H Q E h => ?_) (fun cdv A outer s H vs Q E hr h => ?_))
  · obtain ⟨l, S, R, n, bu, d, rfl, _⟩ := h
    rfl
  · refine ⟨_, (pss_one (ps_ret (pe_lc (own := [("_law_k", 3)]) (g := gName 3) (tt := tYes) rfl scLsc.nd (pi_range1 (by rfl) B.range (pa_cons (pe_op op_add (pv 2) (pe_call GDr hr rfl gDr kDr bDr .nil pass0 (pa_cons (pv 0) (pa_cons pe_int pa_nil)))) pa_nil)) (blkOk_by (N := nLsc) (sc := defScope sLsc) (by decide +kernel)) (fun _ _ _ _ _ => pg_name (i := 3) scLsc.nd rfl (.inl rfl)) (fun _ _ _ _ _ => pts_nil) (fun _ _ _ _ _ => (pe_tup (pa_cons pe_str (pa_cons (pe_lst pa_nil) (pa_cons (pe_lst (pa_cons (pe_lst (pa_cons (pe_tup (pa_cons pe_str (pa_cons pe_str pa_nil))) pa_nil)) pa_nil)) (pa_cons (pe_lst pa_nil) pa_nil))))))))), ?_⟩
    obtain ⟨l, S, R, n, bu, d, rfl, hn, T, hl, k⟩ := h
    refine ⟨_, rfl, _, rfl, drw _ _ _ n _ 2 _ _ T (by omega) (by decide) (by decide) fun H1 r hr1 T1 s1 off => ?_⟩
    refine ⟨_, _, rfl, rfl, ?_⟩
    have em : ((0 : Int) + (r : Int)).toNat = r := by omega
    refine ⟨_, rfl, by omega, by omega, fun D hD => ?_⟩
    have nD := T1.ne hD
    have l1 := hl.same s1
    have hDU : U S R H D = none := s1.free (U_none hD)
    refine lc_it (walk_range (lo := 0) (n := ((0 : Int) + (r : Int)).toNat)) (fun i H' => St bu H' S R (n + 1) ∧ Same (U S R H1) (U S R H') ∧ MkU K l S R D (List.replicate i (cmdD true)) H') ⟨T1.upd nD, U_new hD, MkU.start nD (l1.no hD)⟩ (fun _ _ _ _ => trivial) (fun i x Hq H' hi e y => ?_) (fun H' e => ?_)
    · obtain ⟨T2, s2, mk⟩ := e
      obtain ⟨rfl, rfl⟩ := y
      have li := mk.lsts (l1.same s2)
      refine ⟨rfl, (by decide : 0 ≤ sizeLine), fun p1 m1 => ?_⟩
      have t1 := T2.ne m1
      have u1 := U_new (S := S) (R := R) (o := .lst []) m1
      have d1 := mk_lstL (K := K) m1 t1 (li.no m1) .nil
      have T3 := T2.upd (o := .lst []) t1
      have li := li.same u1
      have a1 := u1
      generalize L2.upd H' p1 (.lst []) = Ha at u1 d1 T3 li a1 ⊢
      refine ⟨(by decide : 2 ≤ sizeLine), fun p2 m2 => ?_⟩
      have t2 := T3.ne m2
      have u2 := U_new (S := S) (R := R) (o := .tup [.str "bare", .str "a"]) m2
      have d2 := mk_tupL (K := K) m2 t2 (li.no m2) (.cons (.str "bare") (.cons (.str "a") .nil))
      have T3 := T3.upd (o := .tup [.str "bare", .str "a"]) t2
      have li := li.same u2
      have d1 := dp_same (UL_same u2) d1
      have a1 := a1.trans u2
      generalize L2.upd Ha p2 (.tup [.str "bare", .str "a"]) = Hb at u2 d1 d2 T3 li a1 ⊢
      refine ⟨(by decide : 1 ≤ sizeLine), fun p3 m3 => ?_⟩
      have t3 := T3.ne m3
      have u3 := U_new (S := S) (R := R) (o := .lst [.ref p2]) m3
      have d3 := mk_lstL m3 t3 (li.no m3) (.cons d2 .nil)
      have T3 := T3.upd (o := .lst [.ref p2]) t3
      have li := li.same u3
      have d1 := dp_same (UL_same u3) d1
      have a1 := a1.trans u3
      generalize L2.upd Hb p3 (.lst [.ref p2]) = Hc at u3 d1 d3 T3 li a1 ⊢
      refine ⟨(by decide : 1 ≤ sizeLine), fun p4 m4 => ?_⟩
      have t4 := T3.ne m4
      have u4 := U_new (S := S) (R := R) (o := .lst [.ref p3]) m4
      have d4 := mk_lstL m4 t4 (li.no m4) (.cons d3 .nil)
      have T3 := T3.upd (o := .lst [.ref p3]) t4
      have li := li.same u4
      have d1 := dp_same (UL_same u4) d1
      have a1 := a1.trans u4
      generalize L2.upd Hc p4 (.lst [.ref p3]) = Hd at u4 d1 d4 T3 li a1 ⊢
      refine ⟨(by decide : 0 ≤ sizeLine), fun p5 m5 => ?_⟩
      have t5 := T3.ne m5
      have u5 := U_new (S := S) (R := R) (o := .lst []) m5
      have d5 := mk_lstL (K := K) m5 t5 (li.no m5) .nil
      have T3 := T3.upd (o := .lst []) t5
      have li := li.same u5
      have d1 := dp_same (UL_same u5) d1
      have d4 := dp_same (UL_same u5) d4
      have a1 := a1.trans u5
      generalize L2.upd Hd p5 (.lst []) = He at u5 d1 d4 d5 T3 li a1 ⊢
      refine ⟨(by decide : 4 ≤ sizeLine), fun p6 m6 => ?_⟩
      have t6 := T3.ne m6
      have u6 := U_new (S := S) (R := R) (o := .tup [.str "do", .ref p1, .ref p4, .ref p5]) m6
      have d6 := mk_tupL m6 t6 (li.no m6) (.cons (.str "do") (.cons d1 (.cons d4 (.cons d5 .nil))))
      have T3 := T3.upd (o := .tup [.str "do", .ref p1, .ref p4, .ref p5]) t6
      have a1 := a1.trans u6
      generalize L2.upd He p6 (.tup [.str "do", .ref p1, .ref p4, .ref p5]) = Hf at u6 d6 T3 a1 ⊢
      obtain ⟨ys, f1, f2, f3⟩ := (mk.same a1).add (d := cmdD true) d6
      rw [List.length_replicate] at f2
      refine ⟨ys, f1, by rw [f2, sizeLine_eq]; omega, T3.upd nD, U_upd2 (s2.trans a1) hD, ?_⟩
      rw [List.replicate_succ']
      exact f3
    · obtain ⟨T2, s2, mk⟩ := e
      refine k H' _ _ T2 (s1.trans s2) mk.fin ?_
      rw [em]
      rcases r with _ | _ | r
      · exact .inl rfl
      · exact .inr rfl
      · omega
end
end Qb
end PySem
namespace PySem
namespace Qb
open PySem.W PySem.Calls PyProof.Rows L2
/-! # words that are drawn -/
theorem eqv_nil' (ds : List PyData) : PyData.eqv (.list []) (.list ds) = ds.isEmpty := by
  cases ds <;> simp [PyData.eqv, PyData.eqvAll]
theorem beq_dec (a b : Str) : (a == b) = decide (b = a) := by
  by_cases h : b = a
  · rw [decide_eq_true h, h]
    exact beq_self_eq_true a
  · rw [decide_eq_false h]
    exact beq_eq_false_iff_ne.mpr fun z => h z.symm
theorem eqv_cut (m : Str) (ws : List PyData) : PyData.eqv cut0 (.tuple [.str "cut", .str m, .list ws]) = (decide (m = "#") && ws.isEmpty) := by
  show PyData.eqv (.tuple [.str "cut", .str "#", .list []]) _ = _
  simp only [PyData.eqv, PyData.eqvAll, Bool.and_true, beq_self_eq_true, Bool.true_and]
  rw [← eqv_nil' ws, beq_dec]
  simp [PyData.eqv]
theorem eqv_cut2 (k : Str) (c : Bool) (ws : List PyData) : PyData.eqv cut0 (.tuple [.str k, .bool c, .list ws]) = false := by
  show PyData.eqv (.tuple [.str "cut", .str "#", .list []]) _ = _
  simp only [PyData.eqv, PyData.eqvAll]
  cases c <;> simp [PyData.eqv]
theorem eqv_must2 (m : Str) (ws : List PyData) : PyData.eqv must0 (.tuple [.str "cut", .str m, .list ws]) = false := by
  show PyData.eqv (.tuple [.str "must", .bool false, .list []]) _ = _
  simp only [PyData.eqv, PyData.eqvAll]
  rw [show (("must" : Str) == "cut") = false from by decide +kernel]
  rfl
theorem eqv_must (k : Str) (c : Bool) (ws : List PyData) : PyData.eqv must0 (.tuple [.str k, .bool c, .list ws]) = (decide (k = "must") && (!c && ws.isEmpty)) := by
  show PyData.eqv (.tuple [.str "must", .bool false, .list []]) _ = _
  simp only [PyData.eqv, PyData.eqvAll, Bool.and_true]
  rw [← eqv_nil' ws, beq_dec]
  cases c <;> simp [PyData.eqv]
theorem shown_cut (x m : Str) (ws : List PyData) : shownB x (.tuple [.str "cut", .str m, .list ws]) = (decide (x = "#") && (decide (m = "#") && ws.isEmpty)) := by
  unfold shownB
  simp only [List.any_cons, List.any_nil, eqv_cut, eqv_must2, Bool.or_false, Bool.false_or]
theorem shown_dd (x k : Str) (c : Bool) (ws : List PyData) : shownB x (.tuple [.str k, .bool c, .list ws]) = (decide (x = "#") && (decide (k = "must") && (!c && ws.isEmpty))) := by
  unfold shownB
  simp only [List.any_cons, List.any_nil, eqv_cut2, eqv_must, Bool.or_false]
def cN : Nat → Nat
  | 0 => 1740
  | n + 1 => 3 * cN n + 40
theorem cN_ge (n : Nat) : 1740 ≤ cN n := by
  cases n with
  | zero => exact Nat.le_refl _
  | succ n =>
    show 1740 ≤ 3 * cN n + 40
    have := cN_ge n
    omega
/-- n + 1: pieces with n parts within -/
def spPs (K : Frag) : Nat → Sp
  | 0 => fun _ _ _ _ => False
  | n + 1 => fun vs H Q _ => ∃ (l : List Addr) (S R : Addr) (m : Nat) (bu d : Int) (ins : Bool) (least : Nat), vs = [.ref S, .int d, .int (n : Nat), .bl ins, .int (least : Nat)] ∧ least ≤ 1 ∧ m + cN n ≤ 69000 ∧ St bu H S R m ∧ Lsts l S R H ∧
    ∀ (H' : Hp) (v : V) (ws : List PyData) (bu' : Int), St bu' H' S R (m + cN n) → Same (U S R H) (U S R H') → Dp K (UL l S R H') v (.list ws) → WsR CRo (n + 1) ins ws true true → least ≤ ws.length → ws.length ≤ 3 → Q v H'
def cP : Nat → Nat
  | 0 => 577
  | n + 1 => cN n + 13
def spLd (K : Frag) (n : Nat) : Sp := fun vs H Q _ => ∃ (l : List Addr) (S R : Addr) (m : Nat) (bu d : Int) (x : Str), vs = [.ref S, .int d, .int (n : Nat), .str x] ∧ m + (cP n - 10) ≤ 69000 ∧ St bu H S R m ∧ Lsts l S R H ∧
    ∀ (H' : Hp) (v : V) (dd : PyData) (bu' : Int), St bu' H' S R (m + (cP n - 10)) → Same (U S R H) (U S R H') → Dp K (UL l S R H') v dd → DdR (WsR CRo n false) x dd true true → Q v H'
def spLpc (K : Frag) (n : Nat) : Sp := fun vs H Q _ => ∃ (l : List Addr) (S R : Addr) (m : Nat) (bu d : Int) (ins : Bool), vs = [.ref S, .int d, .int (n : Nat), .bl ins] ∧ m + cP n ≤ 69000 ∧ St bu H S R m ∧ Lsts l S R H ∧
    ∀ (H' : Hp) (v : V) (p : PyData) (bu' : Int), St bu' H' S R (m + cP n) → Same (U S R H) (U S R H') → Dp K (UL l S R H') v p → PcR CRo (WsR CRo n false) (WsR CRo n true) ins p true true → Q v H'
section
variable {P : Program} {w : World} {K : Frag} {mg : Str → Option Value} {base : Heap}
/-- pieces with one part within less -/
def PswT (K : Frag) (n : Nat) (sp : Sp) : Prop := ∀ (l : List Addr) (S R : Addr) (H : Hp) (m : Nat) (bu d : Int) (ins : Bool) (least : Nat) (i : Int) (Q : VK) (E : XK), i = ((n : Nat) : Int) - 1 → 1 ≤ n → least ≤ 1 → m + cN (n - 1) ≤ 69000 → St bu H S R m → Lsts l S R H →
    (∀ (H' : Hp) (v : V) (ws : List PyData) (bu' : Int), St bu' H' S R (m + cN (n - 1)) → Same (U S R H) (U S R H') → Dp K (UL l S R H') v (.list ws) → WsR CRo n ins ws true true → least ≤ ws.length → ws.length ≤ 3 → Q v H') → sp ([.ref S, .int d, .int i, .bl ins, .int (least : Nat)] ++ []) H Q E
theorem pswT (n : Nat) : PswT K n (spPs K n) := by
  intro l S R H m bu d ins least i Q E ei h1 hl hm T L q
  obtain ⟨n, rfl⟩ : ∃ n', n = n' + 1 := ⟨n - 1, by omega⟩
  obtain rfl : i = ((n : Nat) : Int) := by omega
  exact ⟨l, S, R, m, bu, d, ins, least, rfl, hl, hm, T, L, q⟩
abbrev sLd : Stmt := top 74
abbrev nLd : List Str := ["_law_state_here", "_law_deep", "_law_inner", "_law_name_here", "_law_pick", "_law_unit", "_law_mark", "_law_empty"]
theorem scLd : FnScope nLd ["_law_state_here", "_law_deep", "_law_inner", "_law_name_here"] (defScope sLd) := ⟨rfl, rfl, rfl, by decide +kernel, rfl, by decide +kernel, by decide +kernel⟩
theorem has_Ld {n L : Nat} (l1 : 3 ≤ L) (l14 : n ≤ 10) {f : Addr} {fd : FuncData}  (F : Fun K "_law_deed" "_law_deed" sLd f fd) (g : mg "_law_deed" = some (.ref f)) (B : Blt mg) {spD : Sp} (drw : DrwT spD) (hDr : Has P w K mg base 1 "_law_draw" ["_law_state_here", "_law_many"] spD) {spP : Sp} (psw : PswT K n spP) (hLps : Has P w K mg base L "_law_pieces" ["_law_state_here", "_law_deep", "_law_inner", "_law_inside", "_law_least"] spP) :
    Has P w K mg base (L + 1) "_law_deed" ["_law_state_here", "_law_deep", "_law_inner", "_law_name_here"] (spLd K n) := by
  obtain ⟨fDr, dDr, gDr, kDr, bDr, GDr⟩ := hDr
  obtain ⟨fLps, dLps, gLps, kLps, bLps, GLps⟩ := hLps
  refine has_of F g (F.binds (ps := ["_law_state_here", "_law_deep", "_law_inner", "_law_name_here"]) fun _ _ _ _ _ _ us hl => match us, hl with | [_, _, _, _], _ => rfl) (F.ok scLd (fun vs H Q E h => ?_) (fun cdv A outer s H vs Q E hr h => ?_))
  · obtain ⟨l, S, R, m, bu, d, x, rfl, _⟩ := h
    rfl
  · refine ⟨_, (pss_cons (ps_set (i := 4) scLd.nd rfl (.inl rfl) (pe_call GDr (hr.mono (by omega)) rfl gDr kDr bDr .nil pass0 (pa_cons (pv 0) (pa_cons pe_int pa_nil))))
        (pss_cons (ps_if (PW.pt (pw_or (pt_cmpR op_lt (pv 4) pe_int (nomark _)) (pw_or1 (PW.pt (pw_and (pt_cmpR op_eq (pv 2) pe_int (nomark _)) (pw_and1 (pt_cmpR op_gt (pv 4) pe_int (nomark _)))))))) (pss_one (ps_ret (pe_tup pa_nil))) pss_nil)
        (pss_cons (ps_if (pt_cmpR op_eq (pv 4) pe_int (nomark _)) (pss_one (ps_ret (pe_tup (pa_cons pe_str pa_nil)))) pss_nil)
        (pss_cons (ps_set (i := 5) scLd.nd rfl (.inl rfl) (pe_call GLps hr rfl gLps kLps bLps .nil pass0 (pa_cons (pv 0) (pa_cons (pv 1) (pa_cons (pe_op op_sub (pv 2) pe_int) (pa_cons pe_bl (pa_cons pe_int pa_nil)))))))
        (pss_cons (ps_if (pt_cmpR op_eq (pv 4) pe_int (nomark _)) (pss_cons (ps_set (i := 6) scLd.nd rfl (.inl rfl) (pe_ix ix_list (pe_lst (pa_cons pe_str (pa_cons pe_str (pa_cons pe_str (pa_cons pe_str pa_nil))))) (pe_call GDr (hr.mono (by omega)) rfl gDr kDr bDr .nil pass0 (pa_cons (pv 0) (pa_cons pe_int pa_nil))) (fun _ _ => rfl)))
          (pss_cons (ps_if (PW.pt (pw_and (pt_cmpR op_eq (pv 3) pe_str (nomark _)) (pw_and (pt_cmpR op_eq (pv 6) pe_str (nomark _)) (pw_and1 (pt_cmpR (op_eqD hr.units) (pv 5) (pe_lst pa_nil) (nomark _)))))) (pss_one (ps_ret (pe_tup pa_nil))) pss_nil)
          (pss_one (ps_ret (pe_tup (pa_cons pe_str (pa_cons (pv 6) (pa_cons (pv 5) pa_nil)))))))) pss_nil)
        (pss_cons (ps_set (i := 7) scLd.nd rfl (.inl rfl) (pe_cmpR op_eq (pe_call GDr (hr.mono (by omega)) rfl gDr kDr bDr .nil pass0 (pa_cons (pv 0) (pa_cons pe_int pa_nil))) pe_int (nomark _)))
        (pss_cons (ps_if (PW.pt (pw_and (pt_cmpR op_eq (pv 3) pe_str (nomark _)) (pw_and (pt_cmpR op_eq (pv 4) pe_int (nomark _)) (pw_and (pt_not (pt_val (pv 7))) (pw_and1 (pt_cmpR (op_eqD hr.units) (pv 5) (pe_lst pa_nil) (nomark _))))))) (pss_one (ps_ret (pe_tup pa_nil))) pss_nil)
        (pss_one (ps_ret (pe_tup (pa_cons (pe_ix ix_list (pe_lst (pa_cons pe_str (pa_cons pe_str (pa_cons pe_str (pa_cons pe_str pa_nil))))) (pe_op op_sub (pv 4) pe_int) (fun _ _ => rfl)) (pa_cons (pv 7) (pa_cons (pv 5) pa_nil))))))))))))), ?_⟩
    obtain ⟨l, S, R, m, bu, d, x, rfl, hm, T, hl, k⟩ := h
    have c10 : 577 ≤ cP n := by
      cases n with
      | zero => decide
      | succ n =>
        have := cN_ge n
        show 577 ≤ cN n + 13
        omega
    refine ⟨_, rfl, drw _ _ _ m _ 8 _ _ T (by omega) (by decide) (by decide) fun H1 r hr1 T1 s1 off => ?_⟩
    have l1 := hl.same s1
    have mk0 : ∀ {Ha : Hp} {ma : Nat} {ba : Int} (T0 : Addr), St ba Ha S R ma → ma ≤ m + (cP n - 10) → Same (U S R H) (U S R Ha) → Lsts l S R Ha → Ha T0 = none → Q (.ref T0) (L2.upd Ha T0 (.tup [])) := fun T0 Ta la sa li nT =>
      k _ _ (.tuple []) _ ((Ta.upd (Ta.ne nT)).le la) (sa.trans (U_new nT)) (mk_tupL nT (Ta.ne nT) (li.no nT) .nil) (.inl ⟨rfl, rfl, rfl⟩)
    have mkS : ∀ (T0 : Addr), H1 T0 = none → Q (.ref T0) (L2.upd H1 T0 (.tup [.str "size"])) := fun T0 nT =>
      k _ _ sizD _ ((T1.upd (T1.ne nT)).le (by omega)) (s1.trans (U_new nT)) (mk_tupL nT (T1.ne nT) (l1.no nT) (.cons (.str "size") .nil)) (.inr (.inl ⟨rfl, rfl, rfl⟩))
    by_cases h2 : r < 2
    · exact ⟨_, rfl, _, _, rfl, rfl, _, rfl, if_yes (decide_eq_true (by omega)) (if_yes rfl ⟨(by decide : 0 ≤ sizeLine), fun T0 nT => mk0 T0 T1 (by omega) s1 l1 nT⟩)⟩
    refine ⟨_, rfl, _, _, rfl, rfl, _, rfl, if_no (decide_eq_false (by omega)) ?_⟩
    by_cases hn : n = 0
    · subst hn
      refine ⟨_, rfl, rfl, _, rfl, if_yes (decide_eq_true rfl) ⟨_, rfl, _, _, rfl, rfl, _, rfl, ?_⟩⟩
      by_cases h3 : 2 < r
      · exact if_yes (decide_eq_true (by omega)) ⟨(by decide : 0 ≤ sizeLine), fun T0 nT => mk0 T0 T1 (by omega) s1 l1 nT⟩
      · obtain rfl : r = 2 := by omega
        exact if_no (decide_eq_false (by omega)) ⟨_, rfl, rfl, _, rfl, if_yes (decide_eq_true rfl) ⟨(by decide : 1 ≤ sizeLine), fun T0 nT => mkS T0 nT⟩⟩
    refine ⟨_, rfl, rfl, _, rfl, if_no (decide_eq_false fun z => hn (by have := V.int.inj z; omega)) (if_no rfl ?_)⟩
    refine ⟨_, rfl, rfl, _, rfl, ?_⟩
    by_cases h3 : r = 2
    · subst h3
      exact if_yes (decide_eq_true rfl) ⟨(by decide : 1 ≤ sizeLine), fun T0 nT => mkS T0 nT⟩
    refine if_no (decide_eq_false fun z => h3 (by have := V.int.inj z; omega)) ?_
    have cn : cP n = cN (n - 1) + 13 := by
      cases n with
      | zero => exact absurd rfl hn
      | succ n => rfl
    refine ⟨_, rfl, _, rfl, _, rfl, _, _, rfl, rfl, psw l S R H1 (m + 1) bu d false 0 _ _ _ rfl (by omega) (by decide) (by omega) T1 l1 fun H2 v ws bu2 T2 s2 dv wr lw lw3 => ?_⟩
    have l2 := l1.same s2
    have a2 := s1.trans s2
    have shw : SeqAt.shaped (.list ws) = true := sh_ok (sh_mono (sh_lst (ws_sh n wr)) (by omega) : Sh 60 _) (by decide)
    have dvB : Dp K H2 v (.list ws) := dp_same (UL_back.trans U_back) dv
    refine ⟨_, rfl, rfl, _, rfl, ?_⟩
    by_cases h4 : r = 3
    · subst h4
      refine if_yes (decide_eq_true rfl) ⟨(by decide : 4 ≤ sizeLine), fun L nL => ?_⟩
      refine ⟨_, rfl, drw _ _ _ _ _ 4 _ _ (T2.upd (T2.ne nL)) (by omega) (by decide) (by decide) fun H3 q hq T3 s3 off3 => ?_⟩
      have hL : H3 L = some (.lst (cutW.map V.str)) := by
        rw [off3 L (T2.ne nL).1 (T2.ne nL).2]
        exact upd_same
      obtain ⟨mm, mm1, mm2⟩ := pick_of cutW (r := q) (by show q < 4; omega)
      have mmT : Tx mm := (by
        have := (by decide +kernel : ∀ m ∈ cutW, m.length ≤ 20 ∧ PyData.strOk m = true) mm mm1
        exact ⟨this.1, this.2⟩)
      have s23 := (U_new nL).trans s3
      have a3 := a2.trans s23
      have l3 := l2.same s23
      have dv3 := dp_same (UL_same s23) dv
      refine ⟨L, _, _, _, rfl, rfl, SqL.of hL, atI_nat mm2, ?_⟩
      have fin : ∀ (Ha : Hp) (ba : Int), St ba Ha S R (m + (cP n - 10)) → Same (U S R H3) (U S R Ha) → (∀ T0, Ha T0 = none → ¬ (x = "#" ∧ mm = "#" ∧ ws = []) → Q (.ref T0) (L2.upd Ha T0 (.tup [.str "cut", .str mm, v]))) := fun Ha ba Ta sa T0 nT h => by
        refine k _ _ (.tuple [.str "cut", .str mm, .list ws]) _ (Ta.upd (Ta.ne nT)) ((a3.trans sa).trans (U_new nT)) (mk_tupL nT (Ta.ne nT) ((l3.same sa).no nT) (.cons (.str _) (.cons (.str _) (.cons (dp_same (UL_same sa) dv3) .nil)))) (.inr (.inr (.inr ⟨mm, ws, true, true, rfl, mmT, wr, ?_, rfl⟩)))
        rw [shown_cut, decide_eq_true mm1]
        by_cases hx : x = "#"
        · by_cases hmm : mm = "#"
          · cases ws with
            | nil => exact absurd ⟨hx, hmm, rfl⟩ h
            | cons _ _ => rw [List.isEmpty_cons, Bool.and_false, Bool.and_false]; rfl
          · rw [decide_eq_false hmm, Bool.false_and, Bool.and_false]; rfl
        · rw [decide_eq_false hx, Bool.false_and]; rfl
      have T3' := T3.le (k := m + (cP n - 10)) (by omega)
      refine ⟨_, rfl, rfl, _, rfl, ?_⟩
      by_cases hx : x = "#"
      · refine if_yes (decide_eq_true (congrArg V.str hx)) ⟨_, rfl, rfl, _, rfl, ?_⟩
        by_cases hmm : mm = "#"
        · refine if_yes (decide_eq_true (congrArg V.str hmm)) (rd_eqnil rfl (dp_same (UL_back.trans U_back) dv3) shw fun H4 s4 => ?_)
          have u4 := U_same (S := S) (R := R) s4
          refine ⟨_, rfl, if_by (fun e => ⟨(by decide : 0 ≤ sizeLine), fun T0 nT => mk0 T0 (T3'.same s4) (Nat.le_refl _) (a3.trans u4) (l3.same u4) nT⟩) (fun e => ⟨_, rfl, _, rfl, (by decide : 3 ≤ sizeLine), fun T0 nT => fin H4 _ (T3'.same s4) u4 T0 nT fun z => by rw [z.2.2] at e; cases e⟩)⟩
        · exact if_no (decide_eq_false fun z => hmm (V.str.inj z)) (if_no rfl ⟨_, rfl, _, rfl, (by decide : 3 ≤ sizeLine), fun T0 nT => fin H3 _ T3' (Same.refl _) T0 nT fun z => hmm z.2.1⟩)
      · exact if_no (decide_eq_false fun z => hx (V.str.inj z)) (if_no rfl ⟨_, rfl, _, rfl, (by decide : 3 ≤ sizeLine), fun T0 nT => fin H3 _ T3' (Same.refl _) T0 nT fun z => hx z.1⟩)
    refine if_no (decide_eq_false fun z => h4 (by have := V.int.inj z; omega)) ?_
    have r4 : 4 ≤ r := by omega
    have r8 : r < 8 := by omega
    refine ⟨_, rfl, drw _ _ _ _ _ 2 _ _ T2 (by omega) (by decide) (by decide) fun H3 q hq T3 s3 off3 => ⟨rfl, ?_⟩⟩
    generalize decide (V.int (q : Nat) = V.int 1) = eb
    have a3 := a2.trans s3
    have l3 := l2.same s3
    have dv3 := dp_same (UL_same s3) dv
    obtain ⟨kk, kk1, kk2⟩ := pick_of (["must", "lack", "set", "other"] : List Str) (r := r - 4) (by show r - 4 < 4; omega)
    have kk3 : kk ∈ dd4 := (by decide +kernel : ∀ k ∈ (["must", "lack", "set", "other"] : List Str), k ∈ dd4) kk kk1
    have kk4 : kk = "must" → r = 4 := fun z => by
      subst z
      rcases Nat.lt_or_ge 4 r with h | h
      · exfalso
        obtain ⟨i, rfl⟩ : ∃ i, r = i + 5 := ⟨r - 5, by omega⟩
        rw [show i + 5 - 4 = i + 1 by omega] at kk2
        have mm : V.str "must" ∈ ((["lack", "set", "other"] : List Str).map V.str) := List.mem_of_getElem? (i := i) kk2
        exact absurd mm (by decide +kernel)
      · omega
    have fin : ∀ (Ha : Hp) (ba : Int) (eb : Bool), St ba Ha S R (m + (cP n - 10)) → Same (U S R H3) (U S R Ha) → ¬ (x = "#" ∧ r = 4 ∧ eb = false ∧ ws = []) → ∀ (σ : L2.St) (D : Ends), σ[4]? = some (some (.int (r : Nat))) → σ[5]? = some (some v) → σ[7]? = some (some (.bl eb)) → D.rt = Q →
        tRet (tTup (tCons (tOp (rIxL K) (tLst (tCons (tC (.str "must")) (tCons (tC (.str "lack")) (tCons (tC (.str "set")) (tCons (tC (.str "other")) tNil))))) (tOp (rI0 fun i j => .int (i - j)) (tVar 4) (tC (.int 4)))) (tCons (tVar 7) (tCons (tVar 5) tNil)))) D σ Ha := fun Ha ba eb Ta sa hno σ D h4 h5 h7 hD => by
      refine ⟨(by decide : 4 ≤ sizeLine), fun L nL => ?_⟩
      have hx' : atI ((["must", "lack", "set", "other"] : List Str).map V.str) (((r : Nat) : Int) - 4) = some (.str kk) := by
        rw [show ((r : Nat) : Int) - 4 = ((r - 4 : Nat) : Int) by omega]
        exact atI_nat kk2
      refine ⟨_, h4, _, _, rfl, rfl, L, _, _, _, rfl, rfl, SqL.of upd_same, hx', _, h7, _, h5, (by decide : 3 ≤ sizeLine), fun T0 nT => ?_⟩
      rw [hD]
      have u1 := sa.trans (U_new (o := .lst [.str "must", .str "lack", .str "set", .str "other"]) nL)
      have Tb := Ta.upd (o := .lst [.str "must", .str "lack", .str "set", .str "other"]) (Ta.ne nL)
      refine k _ _ (.tuple [.str kk, .bool eb, .list ws]) _ (Tb.upd (Tb.ne nT)) ((a3.trans u1).trans (U_new nT)) (mk_tupL nT (Tb.ne nT) ((l3.same u1).no nT) (.cons (.str _) (.cons (.bl _) (.cons (dp_same (UL_same u1) dv3) .nil)))) (.inr (.inr (.inl ⟨kk, eb, ws, true, true, rfl, .inl kk3, wr, ?_, ?_⟩)))
      · rw [shown_dd, decide_eq_true kk3]
        by_cases hx : x = "#"
        · by_cases hk : kk = "must"
          · cases eb with
            | true => rw [Bool.not_true, Bool.false_and, Bool.and_false, Bool.and_false]; rfl
            | false =>
              cases ws with
              | nil => exact absurd ⟨hx, kk4 hk, rfl, rfl⟩ hno
              | cons _ _ => rw [List.isEmpty_cons, Bool.and_false, Bool.and_false, Bool.and_false]; rfl
          · rw [decide_eq_false hk, Bool.false_and, Bool.and_false]; rfl
        · rw [decide_eq_false hx, Bool.false_and]; rfl
      · rw [Bool.or_true]
    have T3' := T3.le (k := m + (cP n - 10)) (by omega)
    refine ⟨_, rfl, rfl, _, rfl, ?_⟩
    by_cases hx : x = "#"
    · refine if_yes (decide_eq_true (congrArg V.str hx)) ⟨_, rfl, rfl, _, rfl, ?_⟩
      by_cases h44 : r = 4
      · cases eb with
        | true => exact if_yes (decide_eq_true (by rw [h44]; rfl)) ⟨_, rfl, _, rfl, if_no rfl (if_no rfl (fin H3 _ _ T3' (Same.refl _) (fun z => by cases z.2.2.1) _ _ rfl rfl rfl rfl))⟩
        | false =>
          refine if_yes (decide_eq_true (by rw [h44]; rfl)) ⟨_, rfl, _, rfl, if_yes rfl (rd_eqnil rfl (dp_same (UL_back.trans U_back) dv3) shw fun H4 s4 => ?_)⟩
          have u4 := U_same (S := S) (R := R) s4
          refine ⟨_, rfl, if_by (fun e => ⟨(by decide : 0 ≤ sizeLine), fun T0 nT => mk0 T0 (T3'.same s4) (Nat.le_refl _) (a3.trans u4) (l3.same u4) nT⟩) (fun e => fin H4 _ _ (T3'.same s4) u4 (fun z => by rw [z.2.2.2] at e; cases e) _ _ rfl rfl rfl rfl)⟩
      · exact if_no (decide_eq_false fun z => h44 (by have := V.int.inj z; omega)) (if_no rfl (fin H3 _ _ T3' (Same.refl _) (fun z => h44 z.2.1) _ _ rfl rfl rfl rfl))
    · exact if_no (decide_eq_false fun z => hx (V.str.inj z)) (if_no rfl (fin H3 _ _ T3' (Same.refl _) (fun z => hx z.1) _ _ rfl rfl rfl rfl))
end
end Qb
end PySem
namespace PySem
namespace Qb
open PySem.W PySem.Calls PyProof.Rows L2
/-! # how words are shown by repr -/
theorem Rp.mono {n m n' m' : Nat} {d : PyData} (h : Rp n m d) (a : n ≤ n') (b : m ≤ m') : Rp n' m' d := ⟨sh_mono h.sh a, h.sw, h.nd, Nat.le_trans h.len b⟩
theorem joinL_le (S : List Nat) (m : Nat) : ∀ (ps : List (List Nat)), (∀ p ∈ ps, p.length ≤ m) → (TL.joinL S ps).length ≤ ps.length * (m + S.length)
  | [], _ => Nat.zero_le _
  | [p], h => by
    show p.length ≤ 1 * (m + S.length)
    have := h p (.head _)
    omega
  | p :: q :: r, h => by
    show (p ++ (S ++ TL.joinL S (q :: r))).length ≤ _
    have ih := joinL_le S m (q :: r) fun x mm => h x (.tail _ mm)
    have h1 := h p (.head _)
    rw [List.length_append, List.length_append, List.length_cons (as := q :: r), Nat.add_mul]
    omega
theorem shownAll_map : ∀ ds : List PyData, PyData.shownAll ds = ds.map PyData.shown
  | [] => by rw [PyData.shownAll.eq_1]; rfl
  | d :: ds => by rw [PyData.shownAll.eq_2, shownAll_map ds]; rfl
theorem showableAll_all : ∀ ds : List PyData, (∀ d ∈ ds, d.showable = true) → PyData.showableAll ds = true
  | [], _ => PyData.showableAll.eq_1
  | d :: ds, h => by rw [PyData.showableAll.eq_2, h d (.head _), showableAll_all ds fun e m => h e (.tail _ m)]; rfl
theorem join_le {ds : List PyData} {m : Nat} (h : ∀ d ∈ ds, (cs d.shown).length ≤ m) : (cs ((Str.ofString ", ").join (PyData.shownAll ds))).length ≤ ds.length * (m + 2) := by
  have e4 : cs ((Str.ofString ", ").join (PyData.shownAll ds)) = TL.joinL (TL.tl (Str.ofString ", ")) ((PyData.shownAll ds).map TL.tl) := TL.tl_join _ _
  have e5 : (TL.tl (Str.ofString ", ")).length = 2 := by decide +kernel
  rw [e4]
  have z := joinL_le (TL.tl (Str.ofString ", ")) m ((PyData.shownAll ds).map TL.tl) fun p mm => by
    rw [shownAll_map, List.map_map] at mm
    obtain ⟨d, md, rfl⟩ := List.mem_map.mp mm
    exact h d md
  rw [e5, List.length_map, shownAll_map, List.length_map] at z
  rw [shownAll_map]
  exact z
theorem tup_cs : ∀ (a b : Str) (r : List Str), cs (tupleText (a :: b :: r)) = 40 :: (TL.joinL [44, 32] ((a :: b :: r).map TL.tl) ++ [41]) := by
  intro a b r
  unfold tupleText
  rw [cs_app, cs_app]
  have e1 : cs (Str.ofString "(") = [40] := by decide +kernel
  have e2 : cs (Str.ofString ")") = [41] := by decide +kernel
  have e3 : ((a :: b :: r).length == 1) = false := by simp
  have e4 : cs ((Str.ofString ", ").join (a :: b :: r)) = TL.joinL (TL.tl (Str.ofString ", ")) ((a :: b :: r).map TL.tl) := TL.tl_join _ _
  have e5 : TL.tl (Str.ofString ", ") = [44, 32] := by decide +kernel
  rw [e3, if_neg (by decide), e1, e2, e4, e5]
  simp
theorem rp_two {n m1 m2 : Nat} {d e : PyData} (a : Rp n m1 d) (b : Rp n m2 e) : Rp (n + 1) (m1 + m2 + 4) (.tuple [d, e]) := by
  refine ⟨sh_tup fun x m => ?_, ?_, ?_, ?_⟩
  · rcases List.mem_cons.mp m with rfl | m
    · exact a.sh
    · rw [List.mem_singleton.mp m]; exact b.sh
  · rw [PyData.showable.eq_6, PyData.showableAll.eq_2, PyData.showableAll.eq_2, PyData.showableAll.eq_1, a.sw, b.sw]
    rfl
  · show (d.hasDict || (e.hasDict || false)) = false
    rw [a.nd, b.nd]
    rfl
  · rw [PyData.shown.eq_6, PyData.shownAll.eq_2, PyData.shownAll.eq_2, PyData.shownAll.eq_1, tup_cs]
    have h1 : (TL.tl d.shown).length ≤ m1 := a.len
    have h2 : (TL.tl e.shown).length ≤ m2 := b.len
    show (40 :: ((TL.tl d.shown ++ ([44, 32] ++ TL.tl e.shown)) ++ [41])).length ≤ _
    simp only [List.length_cons, List.length_append, List.length_nil]
    omega
theorem rp_three {n m1 m2 m3 : Nat} {d e f : PyData} (a : Rp n m1 d) (b : Rp n m2 e) (c : Rp n m3 f) : Rp (n + 1) (m1 + m2 + m3 + 6) (.tuple [d, e, f]) := by
  refine ⟨sh_tup fun x m => ?_, ?_, ?_, ?_⟩
  · rcases List.mem_cons.mp m with rfl | m
    · exact a.sh
    rcases List.mem_cons.mp m with rfl | m
    · exact b.sh
    · rw [List.mem_singleton.mp m]; exact c.sh
  · rw [PyData.showable.eq_6, PyData.showableAll.eq_2, PyData.showableAll.eq_2, PyData.showableAll.eq_2, PyData.showableAll.eq_1, a.sw, b.sw, c.sw]
    rfl
  · show (d.hasDict || (e.hasDict || (f.hasDict || false))) = false
    rw [a.nd, b.nd, c.nd]
    rfl
  · rw [PyData.shown.eq_6, PyData.shownAll.eq_2, PyData.shownAll.eq_2, PyData.shownAll.eq_2, PyData.shownAll.eq_1, tup_cs]
    have h1 : (TL.tl d.shown).length ≤ m1 := a.len
    have h2 : (TL.tl e.shown).length ≤ m2 := b.len
    have h3 : (TL.tl f.shown).length ≤ m3 := c.len
    show (40 :: ((TL.tl d.shown ++ ([44, 32] ++ (TL.tl e.shown ++ ([44, 32] ++ TL.tl f.shown)))) ++ [41])).length ≤ _
    simp only [List.length_cons, List.length_append, List.length_nil]
    omega
theorem rp_four {n m1 m2 m3 m4 : Nat} {d e f g : PyData} (a : Rp n m1 d) (b : Rp n m2 e) (c : Rp n m3 f) (k : Rp n m4 g) : Rp (n + 1) (m1 + m2 + m3 + m4 + 8) (.tuple [d, e, f, g]) := by
  refine ⟨sh_tup fun x m => ?_, ?_, ?_, ?_⟩
  · rcases List.mem_cons.mp m with rfl | m
    · exact a.sh
    rcases List.mem_cons.mp m with rfl | m
    · exact b.sh
    rcases List.mem_cons.mp m with rfl | m
    · exact c.sh
    · rw [List.mem_singleton.mp m]; exact k.sh
  · rw [PyData.showable.eq_6, PyData.showableAll.eq_2, PyData.showableAll.eq_2, PyData.showableAll.eq_2, PyData.showableAll.eq_2, PyData.showableAll.eq_1, a.sw, b.sw, c.sw, k.sw]
    rfl
  · show (d.hasDict || (e.hasDict || (f.hasDict || (g.hasDict || false)))) = false
    rw [a.nd, b.nd, c.nd, k.nd]
    rfl
  · rw [PyData.shown.eq_6, PyData.shownAll.eq_2, PyData.shownAll.eq_2, PyData.shownAll.eq_2, PyData.shownAll.eq_2, PyData.shownAll.eq_1, tup_cs]
    have h1 : (TL.tl d.shown).length ≤ m1 := a.len
    have h2 : (TL.tl e.shown).length ≤ m2 := b.len
    have h3 : (TL.tl f.shown).length ≤ m3 := c.len
    have h4 : (TL.tl g.shown).length ≤ m4 := k.len
    show (40 :: ((TL.tl d.shown ++ ([44, 32] ++ (TL.tl e.shown ++ ([44, 32] ++ (TL.tl f.shown ++ ([44, 32] ++ TL.tl g.shown)))))) ++ [41])).length ≤ _
    simp only [List.length_cons, List.length_append, List.length_nil]
    omega
theorem rp_lst {n m : Nat} {ds : List PyData} (h : ∀ d ∈ ds, Rp n m d) : Rp (n + 1) (2 + ds.length * (m + 2)) (.list ds) := by
  refine ⟨sh_lst fun d mm => (h d mm).sh, ?_, ?_, ?_⟩
  · rw [PyData.showable.eq_5]
    exact showableAll_all ds fun d mm => (h d mm).sw
  · show PyData.hasDictAll ds = false
    induction ds with
    | nil => rfl
    | cons d ds ih =>
      show (d.hasDict || PyData.hasDictAll ds) = false
      rw [(h d (.head _)).nd, ih fun e mm => h e (.tail _ mm)]
      rfl
  · rw [PyData.shown.eq_5, ← len_cs]
    unfold listText
    have z := textFrom_len_le (PyData.shownAll ds) 0 "["
    have e1 : ("[" : Str).length = 1 := by decide +kernel
    have e2 : ("]" : Str).length = 1 := by decide +kernel
    have e3 : (textFrom 0 "[" (PyData.shownAll ds) ++ ("]" : Str)).length = (textFrom 0 "[" (PyData.shownAll ds)).length + 1 := by
      rw [len_cs, cs_app, List.length_append, ← len_cs, ← len_cs, e2]
    have e4 : ∀ l : List PyData, (∀ d ∈ l, (cs d.shown).length ≤ m) → ((PyData.shownAll l).map (·.length)).sum ≤ l.length * m := by
      intro l
      induction l with
      | nil => intro _; rw [PyData.shownAll.eq_1]; exact Nat.zero_le _
      | cons d l ih =>
        intro hl
        have i := ih fun e mm => hl e (.tail _ mm)
        have j := hl d (.head _)
        rw [← len_cs] at j
        rw [PyData.shownAll.eq_2, List.map_cons, List.sum_cons, List.length_cons, Nat.add_mul]
        omega
    have z2 := e4 ds fun d mm => (h d mm).len
    have z3 : (PyData.shownAll ds).length = ds.length := by rw [shownAll_map, List.length_map]
    rw [e3, Nat.mul_add]
    omega
theorem ok_lt {x : Str} (h : PyData.strOk x = true) : ∀ c ∈ x.cps.toList, c < 16 ^ 8 := fun c m => by
  unfold PyData.strOk at h
  rw [Array.all_eq_true_iff_forall_mem] at h
  have := of_decide_eq_true (h c (by simpa using m))
  exact Nat.lt_trans this (by decide)
theorem rp_str {x : Str} (h : PyData.strOk x = true) (l : x.length ≤ 20) : Rp 0 202 (.str x) :=
  ⟨sh_str h, PyData.showable.eq_3 x, rfl, by
    rw [PyData.shown.eq_4, ← len_cs]
    have := StrLaws.reprText_len x (ok_lt h)
    omega⟩
theorem rp_bool (b : Bool) : Rp 0 202 (.bool b) := ⟨sh_bl, PyData.showable.eq_2 b, rfl, by rw [PyData.shown.eq_2]; cases b <;> decide +kernel⟩
theorem rp_nil : Rp 1 2 (.list []) := (rp_lst (n := 0) (m := 0) (ds := []) fun d m => by cases m).mono (Nat.le_refl _) (by decide)
theorem rp_cmd (b : Bool) : Rp 13 640 (cmdD b) := by
  have e0 : Rp 0 202 (.str "do") := rp_str (by decide +kernel) (by decide +kernel)
  have ea : Rp 1 408 (.tuple [.str "bare", .str "a"]) := rp_two (rp_str (by decide +kernel) (by decide +kernel)) (rp_str (by decide +kernel) (by decide +kernel))
  have eb : Rp 2 412 (.list aW) := (rp_lst (m := 408) (ds := aW) fun d m => by rw [List.mem_singleton.mp m]; exact ea).mono (Nat.le_refl _) (by decide)
  have ec : Rp 3 416 (.list (cmdW b)) := by
    cases b with
    | false => exact rp_nil.mono (by decide) (by decide)
    | true => exact (rp_lst (m := 412) (ds := cmdW true) fun d m => by rw [List.mem_singleton.mp m]; exact eb).mono (Nat.le_refl _) (by decide)
  exact (rp_four (e0.mono (Nat.zero_le 3) (Nat.le_refl _)) (rp_nil.mono (by decide : 1 ≤ 3) (Nat.le_refl _)) ec (rp_nil.mono (by decide : 1 ≤ 3) (Nat.le_refl _))).mono (by decide) (by decide)
/-- how long a piece may be shown -/
def rM : Nat → Nat
  | 0 => 0
  | n + 1 => (n + 2) * (rM n + 2) + 1450
theorem rp_text {k : Str} (h : PyData.strOk k = true ∧ k.length ≤ 20) {n : Nat} : Rp n 202 (.str k) := (rp_str h.1 h.2).mono (Nat.zero_le _) (Nat.le_refl _)
theorem rp_word {n k : Nat} {ws : List PyData} (hl : ws.length ≤ k) {m : Nat} (h : ∀ p ∈ ws, Rp n m p) : Rp (n + 1) (k * (m + 2) + 2) (.list ws) := (rp_lst h).mono (Nat.le_refl _) (by
  have : ws.length * (m + 2) ≤ k * (m + 2) := Nat.mul_le_mul_right _ hl
  omega)
theorem ws_len {CR : PyData → Bool → Prop} {n : Nat} {i : Bool} {ws : List PyData} {b r : Bool} (h : WsR CR n i ws b r) : ws.length ≤ n + 2 := by
  cases n with
  | zero => exact h.elim
  | succ n => exact h.1
theorem ws_rp : ∀ (n : Nat) {i : Bool} {ws : List PyData} {b r : Bool}, WsR CRo n i ws b r → ∀ p ∈ ws, Rp (15 + 3 * n) (rM n) p
  | 0, _, _, _, _, h => h.elim
  | n + 1, i, ws, b, r, ⟨_, ps, all, _, _⟩ => fun p m => by
    obtain ⟨q, _, hp⟩ := all.mem m
    have kw : ∀ (k : Str), PyData.strOk k = true ∧ k.length ≤ 20 → ∀ {n : Nat}, Rp n 202 (.str k) := fun k h {n} => rp_text h
    have wd : ∀ {w : List PyData} {j b r : Bool}, WsR CRo n j w b r → Rp (16 + 3 * n) ((n + 2) * (rM n + 2) + 2) (.list w) := fun {w j b r} h => (rp_word (ws_len h) (ws_rp n h)).mono (by omega) (Nat.le_refl _)
    show Rp (15 + 3 * (n + 1)) ((n + 2) * (rM n + 2) + 1450) p
    generalize (n + 2) * (rM n + 2) = X at wd ⊢
    rcases hp with ⟨k, x, rfl, hk, hx, _, _⟩ | ⟨w, bw, rw, rfl, hw, _, _⟩ | ⟨x, d, bd, rfl, hx, hd, _⟩ | ⟨t, rfl, _, _, ht, _, _⟩ | ⟨cs, bs, rfl, hcl, hcs, _, _, _⟩
    · exact (rp_two (n := 0) (kw k ⟨hk.ok, hk.len⟩) (kw x ⟨hx.ok, hx.len⟩)).mono (by omega) (by omega)
    · exact (rp_two (kw "wide" (by decide +kernel)) (wd hw)).mono (by omega) (by omega)
    · have hdd : Rp (17 + 3 * n) (X + 430) d := by
        rcases hd with ⟨rfl, _, _⟩ | ⟨rfl, _, _⟩ | ⟨k, c, w, bw, rw, rfl, hk, hw, _, _⟩ | ⟨mk, w, bw, rw, rfl, hm, hw, _, _⟩
        · have e : Rp 1 2 (.tuple []) := ⟨sh_tup (n := 0) (ds := []) (fun d m => by cases m), by rw [PyData.showable.eq_6, PyData.showableAll.eq_1], rfl, by decide +kernel⟩
          exact e.mono (by omega) (by omega)
        · have e : Rp 1 20 sizD := ⟨sh_tup (n := 0) (ds := [.str "size"]) (fun d m => by rw [List.mem_singleton.mp m]; exact sh_str (by decide +kernel)), by decide +kernel, rfl, by decide +kernel⟩
          exact e.mono (by omega) (by omega)
        · have ok : PyData.strOk k = true ∧ k.length ≤ 20 := by
            rcases hk with hk | rfl
            · exact (by decide +kernel : ∀ k ∈ dd4, PyData.strOk k = true ∧ k.length ≤ 20) k hk
            · decide +kernel
          exact (rp_three (kw k ok) ((rp_bool c).mono (Nat.zero_le _) (Nat.le_refl _)) (wd hw)).mono (by omega) (by omega)
        · exact (rp_three (kw "cut" (by decide +kernel)) (kw mk ⟨hm.ok, hm.len⟩) (wd hw)).mono (by omega) (by omega)
      exact (rp_three (kw "name" (by decide +kernel)) (kw x ⟨hx.ok, hx.len⟩) hdd).mono (by omega) (by omega)
    · exact (rp_two (kw "sum" (by decide +kernel)) ht).mono (by omega) (by omega)
    · have hc : Rp 14 650 (.list cs) := (rp_lst (n := 13) (m := 640) fun c m => by
        obtain ⟨b, _, hb⟩ := hcs.mem m
        rw [show c = cmdD b from hb]
        exact rp_cmd b).mono (Nat.le_refl _) (by
          have : cs.length * (640 + 2) ≤ 1 * (640 + 2) := Nat.mul_le_mul_right _ hcl
          omega)
      exact (rp_two (kw "run" (by decide +kernel)) hc).mono (by omega) (by omega)
/-- a whole word can be shown -/
theorem ws_wd {i : Bool} {ws : List PyData} {b r : Bool} (h : WsR CRo 5 i ws b r) : Rp 31 16000000 (.list ws) :=
  (rp_word (ws_len h) (ws_rp 5 h)).mono (Nat.le_refl _) (by decide)
end Qb
end PySem
namespace PySem
namespace Qb
open PySem.W PySem.Calls PyProof.Rows L2
/-! # pieces that are drawn -/
theorem int_log {i : Int} (h0 : 0 ≤ i) (h : i < 10 ^ 80) : i.natAbs.log2 < 1920 := by
  obtain ⟨n, rfl⟩ : ∃ n : Nat, i = n := ⟨i.toNat, (Int.toNat_of_nonneg h0).symm⟩
  rw [Int.natAbs_natCast]
  have h' : n < 10 ^ 80 := by exact_mod_cast h
  by_cases z : n = 0
  · subst z; decide
  · exact (Nat.log2_lt z).mpr (Nat.lt_trans h' (by decide +kernel))
theorem sh_int (n : Int) : Sh 0 (.int n) := ⟨PyData.canLay0.eq_3 n, Nat.le_of_eq rfl⟩
theorem rp_int {i : Int} (h0 : 0 ≤ i) (h : i ≤ 10 ^ 18) : Rp 0 19 (.int i) := by
  refine ⟨sh_int i, by rw [PyData.showable.eq_4]; exact decide_eq_true (int_log h0 (Int.lt_of_le_of_lt h (by decide))), rfl, ?_⟩
  obtain ⟨k, rfl⟩ : ∃ k : Nat, i = k := ⟨i.toNat, (Int.toNat_of_nonneg h0).symm⟩
  have := len_str_int (n := k) (k := 19) (by have : (k : Int) < 10 ^ 19 := Int.lt_of_le_of_lt h (by decide); exact_mod_cast this) (by decide)
  have e : (Str.ofString (toString (k : Int))).length = (toString (k : Int)).length := PyProof.Rows.ofString_length _
  rw [PyData.shown.eq_3, ← len_cs, e]
  exact this
theorem rp_k {x : Str} {m : Nat} (h : PyData.strOk x = true ∧ (cs (reprText x)).length ≤ m) {n : Nat} : Rp n m (.str x) := ⟨sh_mono (sh_str h.1) (Nat.zero_le _), PyData.showable.eq_3 x, rfl, by rw [PyData.shown.eq_4]; exact h.2⟩
theorem op_txt {s : Str} (h : isOp s = true) : PyData.strOk s = true ∧ (cs (reprText s)).length ≤ 8 := by
  obtain ⟨c, m⟩ := op_tpk h
  exact (by decide +kernel : ∀ p ∈ tpk, PyData.strOk p.1 = true ∧ (cs (reprText p.1)).length ≤ 8) _ m
theorem drn_tm : ∀ {t : Sm}, t.drn → t.ok = true ∧ t.fine ∧ Rp (t.ht + 1) (80 * t.size) t.d
  | .num n, h => ⟨decide_eq_true h.1, trivial, (rp_two (n := 0) (rp_k (m := 8) (by decide +kernel)) (rp_int h.1 h.2)).mono (Nat.le_refl _) (by show _ ≤ 80 * 1; decide)⟩
  | .of w, h => by
    have e : (isNameB (cs w) || (isPlB (cs w) && !inV (.str w) (alW.map V.str))) = true ∧ w.length ≤ 5 ∧ okT w := by
      rcases h with ⟨h1, h2⟩ | h
      · exact ⟨by rw [h1]; rfl, by omega, name_okT h1⟩
      · exact (by decide +kernel : ∀ w ∈ wPl, (isNameB (cs w) || (isPlB (cs w) && !inV (.str w) (alW.map V.str))) = true ∧ w.length ≤ 5 ∧ ∀ c ∈ cs w, c < 128) w h
    have e2 : (cs (reprText w)).length ≤ 52 := by
      rw [← len_cs]
      have := StrLaws.reprText_len w (ok_lt e.2.2.str)
      omega
    exact ⟨e.1, (show w.length ≤ big by have := e.2.1; unfold big; omega), (rp_two (n := 0) (rp_k (m := 8) (by decide +kernel)) (rp_k ⟨e.2.2.str, e2⟩)).mono (Nat.le_refl _) (by show _ ≤ 80 * 1; decide)⟩
  | .one s a, h => by
    obtain ⟨i1, i2, i3⟩ := drn_tm h.2
    have e : (s == "minus" || s == "no") = true ∧ s ≠ "number" ∧ s ≠ "of" ∧ (PyData.strOk s = true ∧ (cs (reprText s)).length ≤ 8) := by
      rcases h.1 with rfl | rfl
      · decide +kernel
      · decide +kernel
    refine ⟨by show (_ && _) = true; rw [e.1, i1]; rfl, ⟨e.2.1, e.2.2.1, i2⟩, ?_⟩
    show Rp (1 + a.ht + 1) (80 * (1 + a.size)) _
    exact (rp_two (rp_k e.2.2.2) i3).mono (by omega) (by omega)
  | .two s a b, h => by
    obtain ⟨i1, i2, i3⟩ := drn_tm h.2.1
    obtain ⟨j1, j2, j3⟩ := drn_tm h.2.2
    refine ⟨by show (_ && (_ && _)) = true; rw [h.1, i1, j1]; rfl, ⟨i2, j2⟩, ?_⟩
    show Rp (1 + max a.ht b.ht + 1) (80 * (1 + a.size + b.size)) _
    exact (rp_three (n := max a.ht b.ht + 1) (rp_k (op_txt h.1)) (i3.mono (by omega) (Nat.le_refl _)) (j3.mono (by omega) (Nat.le_refl _))).mono (by omega) (by omega)
  | .three s a b c, h => by
    obtain ⟨i1, i2, i3⟩ := drn_tm h.2.1
    obtain ⟨j1, j2, j3⟩ := drn_tm h.2.2.1
    obtain ⟨k1, k2, k3⟩ := drn_tm h.2.2.2
    have e : (s == "choose") = true ∧ (PyData.strOk s = true ∧ (cs (reprText s)).length ≤ 8) := by rw [h.1]; decide +kernel
    refine ⟨by show (_ && (_ && (_ && _))) = true; rw [e.1, i1, j1, k1]; rfl, ⟨i2, j2, k2⟩, ?_⟩
    show Rp (1 + max a.ht (max b.ht c.ht) + 1) (80 * (1 + a.size + b.size + c.size)) _
    exact (rp_four (n := max a.ht (max b.ht c.ht) + 1) (rp_k e.2) (i3.mono (by omega) (Nat.le_refl _)) (j3.mono (by omega) (Nat.le_refl _)) (k3.mono (by omega) (Nat.le_refl _))).mono (by omega) (by omega)
theorem drn_lawf : ∀ {t : Sm}, t.drn → t.tm.lawf
  | .num _, _ => trivial
  | .of _, _ => trivial
  | .one s a, h => ⟨by rcases h.1 with e | e; exact .inl e; exact .inr (.inl e), drn_lawf h.2⟩
  | .two s a b, h => ⟨h.1, drn_lawf h.2.1, drn_lawf h.2.2⟩
  | .three s a b c, h => ⟨h.1, drn_lawf h.2.1, drn_lawf h.2.2.1, drn_lawf h.2.2.2⟩
/-- a sum holds no list -/
theorem dp_noL {K : Frag} {l : List Addr} {S R : Addr} {H : Hp} (hl : Lsts l S R H) : ∀ {t : Sm} {v : V}, Dp K (U S R H) v t.d → Dp K (UL l S R H) v t.d := by
  have tup : ∀ {a : Addr} {xs : List V}, SqT K (U S R H) a xs → SqT K (UL l S R H) a xs := fun {a xs} h => by
    rcases h with h | h
    · refine .inl ?_
      have key : ∀ o, U S R H a = some o → (∀ ys, o ≠ .lst ys) → UL l S R H a = some o := fun o e ne => by
        unfold UL
        by_cases m : a ∈ l
        · obtain ⟨ys, e2⟩ := hl a m
          rw [e] at e2
          exact absurd (Option.some.inj e2) (ne ys)
        · rw [if_neg m]
          exact e
      rcases h with h | ⟨o, h⟩
      · exact .inl (key _ h fun ys z => by cases z)
      · exact .inr ⟨o, key _ h fun ys z => by cases z⟩
    · exact .inr h
  have str : ∀ {v : V} {x : Str}, Dp K (U S R H) v (.str x) → Dp K (UL l S R H) v (.str x) := fun h => by
    cases h
    exact .str _
  have int : ∀ {v : V} {x : Int}, Dp K (U S R H) v (.int x) → Dp K (UL l S R H) v (.int x) := fun h => by
    cases h
    exact .int _
  intro t
  induction t with
  | num n =>
    intro v h
    obtain ⟨a, x, rfl, q, h1⟩ := pc_two h
    exact .tup (tup q) (.cons (.str _) (.cons (int h1) .nil))
  | of w =>
    intro v h
    obtain ⟨a, x, rfl, q, h1⟩ := pc_two h
    exact .tup (tup q) (.cons (.str _) (.cons (str h1) .nil))
  | one s a ih =>
    intro v h
    obtain ⟨a, x, rfl, q, h1⟩ := pc_two h
    exact .tup (tup q) (.cons (.str _) (.cons (ih h1) .nil))
  | two s a b ih1 ih2 =>
    intro v h
    obtain ⟨a, x, y, rfl, q, h1, h2⟩ := pc_three h
    exact .tup (tup q) (.cons (.str _) (.cons (ih1 h1) (.cons (ih2 h2) .nil)))
  | three s a b c ih1 ih2 ih3 =>
    intro v h
    obtain ⟨a, x, y, z, rfl, q, h1, h2, h3⟩ := pc_four h
    exact .tup (tup q) (.cons (.str _) (.cons (ih1 h1) (.cons (ih2 h2) (.cons (ih3 h3) .nil))))
theorem nb_cons (k : Str) (a b : PyData) (r : List PyData) : nbB k (a :: b :: r) = ((decide (headK a = k) && decide (headK b = k)) || nbB k (b :: r)) := rfl
theorem nb_snoc (k : Str) (p : PyData) : ∀ ds : List PyData, nbB k (ds ++ [p]) = (nbB k ds || match ds.getLast? with | none => false | some q => decide (headK q = k) && decide (headK p = k))
  | [] => rfl
  | [a] => by
    show nbB k (a :: p :: []) = _
    rw [nb_cons]
    show (_ || false) = (false || _)
    rw [Bool.or_false, Bool.false_or]
    rfl
  | a :: b :: r => by
    show nbB k (a :: b :: (r ++ [p])) = _
    have ih := nb_snoc k p (b :: r)
    rw [nb_cons, nb_cons]
    rw [show b :: (r ++ [p]) = (b :: r) ++ [p] from rfl, ih, Bool.or_assoc, List.getLast?_cons_cons]
section
variable {P : Program} {w : World} {K : Frag} {mg : Str → Option Value} {base : Heap}
/-- a test that changes nothing -/
def Pu (t : TT) (σ : L2.St) (H : Hp) (b : Bool) : Prop := ∀ Q : Bool → Hp → Prop, Q b H → t σ H Q
theorem pu_and {t u : TT} {σ : L2.St} {H : Hp} {b c : Bool} (h1 : Pu t σ H b) (h2 : b = true → Pu u σ H c) : Pu (tAnd t u) σ H (b && c) := fun Q q => h1 _ (by
  cases b with
  | true => exact h2 rfl _ q
  | false => exact q)
theorem pu_lt {σ : L2.St} {H : Hp} {a : Nat} {x c : Int} (h : σ[a]? = some (some (.int x))) : Pu (tTest (tOp (rI0 fun i j => .bl (decide (i < j))) (tVar a) (tC (.int c)))) σ H (decide (x < c)) := fun Q q => ⟨_, h, _, _, rfl, rfl, _, rfl, q⟩
theorem pu_gt {σ : L2.St} {H : Hp} {a : Nat} {x c : Int} (h : σ[a]? = some (some (.int x))) : Pu (tTest (tOp (rI0 fun i j => .bl (decide (j < i))) (tVar a) (tC (.int c)))) σ H (decide (c < x)) := fun Q q => ⟨_, h, _, _, rfl, rfl, _, rfl, q⟩
theorem pu_eq {σ : L2.St} {H : Hp} {a : Nat} {x c : Int} (h : σ[a]? = some (some (.int x))) : Pu (tTest (tOp rEq (tVar a) (tC (.int c)))) σ H (decide (V.int x = V.int c)) := fun Q q => ⟨_, h, rfl, _, rfl, q⟩
theorem pu_var {σ : L2.St} {H : Hp} {a : Nat} {b : Bool} (h : σ[a]? = some (some (.bl b))) : Pu (tB (tVar a)) σ H b := fun Q q => ⟨_, h, b, rfl, q⟩
theorem pu_not {σ : L2.St} {H : Hp} {a : Nat} {b : Bool} (h : σ[a]? = some (some (.bl b))) : Pu (tNot (tB (tVar a))) σ H (!b) := fun Q q => ⟨_, h, b, rfl, q⟩
/-- state[2] > 0 -/
theorem pu_ix {K : Frag} {σ : L2.St} {H : Hp} {a : Nat} {S : Addr} {x y z : V} {c : Int} (hS : H S = some (.lst [x, y, .int z', z])) (h : σ[a]? = some (some (.ref S))) : Pu (tTest (tOp (rI0 fun i j => .bl (decide (j < i))) (tOp (rIxL K) (tVar a) (tC (.int 2))) (tC (.int c)))) σ H (decide (c < z')) := fun Q q =>
  ⟨_, h, S, _, _, _, rfl, rfl, sqH hS, rfl, _, _, rfl, rfl, _, rfl, q⟩
def SmwT (K : Frag) (sp : Sp) : Prop := ∀ (l : List Addr) (S R : Addr) (H : Hp) (m : Nat) (bu : Int) (Q : VK) (E : XK), m + 576 ≤ 70000 → St bu H S R m → Lsts l S R H →
    (∀ (H' : Hp) (v : V) (t : Sm) (bu' : Int), St bu' H' S R (m + 576) → Same (U S R H) (U S R H') → Dp K (UL l S R H') v t.d → t.drn → t.ht ≤ 2 → t.size ≤ 13 → Q v H') → sp ([.ref S, .int 2] ++ []) H Q E
theorem pc_txt {n : Nat} {i : Bool} {k x : Str} (hk : TxK k) (hx : Tx x) (h : txtB i k x = true) : PcR CRo (WsR CRo n false) (WsR CRo n true) i (.tuple [.str k, .str x]) true true := .inl ⟨k, x, rfl, hk, hx, h.symm, rfl⟩
theorem txK_plain : TxK "plain" := ⟨by decide +kernel, by decide +kernel, by decide +kernel, by decide +kernel, by decide +kernel, by decide +kernel⟩
theorem txK_held : TxK "held" := ⟨by decide +kernel, by decide +kernel, by decide +kernel, by decide +kernel, by decide +kernel, by decide +kernel⟩
theorem txK_mark : TxK "mark" := ⟨by decide +kernel, by decide +kernel, by decide +kernel, by decide +kernel, by decide +kernel, by decide +kernel⟩
theorem b_plain (x : Str) : txtB true "plain" x = decide (x ≠ "") := by
  unfold txtB
  rw [if_pos rfl, decide_eq_true rfl, Bool.true_and]
theorem b_bare (x : Str) : txtB false "bare" x = isBareB (cs x) := by
  unfold txtB
  rw [if_neg (by decide), if_pos rfl]
theorem b_held (x : Str) : txtB false "held" x = !decide (39 ∈ cs x) := by
  unfold txtB
  rw [if_neg (by decide), if_neg (by decide +kernel), if_pos rfl]
theorem b_mark (x : Str) : txtB false "mark" x = (decide (x.length = 1) && decide (x ≠ ("\n" : Str))) := by
  unfold txtB
  rw [if_neg (by decide), if_neg (by decide +kernel), if_neg (by decide +kernel), if_pos rfl]
theorem nm_ok {x : Str} (h : isNameB (cs x) = true ∨ x ∈ wPlc) : (isNameB (cs x) || isPlB (cs x)) = true := by
  rcases h with h | h
  · rw [h]; rfl
  · exact (by decide +kernel : ∀ x ∈ wPlc, (isNameB (cs x) || isPlB (cs x)) = true) x h
abbrev sLpc : Stmt := top 73
abbrev nLpc : List Str := ["_law_state_here", "_law_deep", "_law_inner", "_law_inside", "_law_pick", "_law_name_here"]
theorem scLpc : FnScope nLpc ["_law_state_here", "_law_deep", "_law_inner", "_law_inside"] (defScope sLpc) := ⟨rfl, rfl, rfl, by decide +kernel, rfl, by decide +kernel, by decide +kernel⟩
theorem has_Lpc {n L : Nat} (l1 : 9 ≤ L) (l14 : n ≤ 10) {f : Addr} {fd : FuncData}  (F : Fun K "_law_piece" "_law_piece" sLpc f fd) (g : mg "_law_piece" = some (.ref f)) (B : Blt mg) {spD : Sp} (drw : DrwT spD) (hDr : Has P w K mg base 1 "_law_draw" ["_law_state_here", "_law_many"] spD) (hAn : Has P w K mg base 3 "_law_any" ["_law_state_here", "_law_least", "_law_most"] spAn) (hLb : Has P w K mg base 3 "_law_bare" ["_law_state_here"] spLb) {spP : Sp} (psw : PswT K n spP) (hLps : Has P w K mg base L "_law_pieces" ["_law_state_here", "_law_deep", "_law_inner", "_law_inside", "_law_least"] spP) (hLsc : Has P w K mg base 2 "_law_script" ["_law_state_here", "_law_deep", "_law_least"] (spLsc K)) {spS : Sp} (smw : SmwT K spS) (hLs : Has P w K mg base 8 "_law_sum" ["_law_state_here", "_law_deep"] spS) (hNm : Has P w K mg base 3 "_law_name" ["_law_state_here"] spNm) (hLp : Has P w K mg base 2 "_law_place" ["_law_state_here"] spLp) (hLd : Has P w K mg base (L + 1) "_law_deed" ["_law_state_here", "_law_deep", "_law_inner", "_law_name_here"] (spLd K n)) :
    Has P w K mg base (L + 2) "_law_piece" ["_law_state_here", "_law_deep", "_law_inner", "_law_inside"] (spLpc K n) := by
  obtain ⟨fDr, dDr, gDr, kDr, bDr, GDr⟩ := hDr
  obtain ⟨fAn, dAn, gAn, kAn, bAn, GAn⟩ := hAn
  obtain ⟨fLb, dLb, gLb, kLb, bLb, GLb⟩ := hLb
  obtain ⟨fLps, dLps, gLps, kLps, bLps, GLps⟩ := hLps
  obtain ⟨fLsc, dLsc, gLsc, kLsc, bLsc, GLsc⟩ := hLsc
  obtain ⟨fLs, dLs, gLs, kLs, bLs, GLs⟩ := hLs
  obtain ⟨fNm, dNm, gNm, kNm, bNm, GNm⟩ := hNm
  obtain ⟨fLp, dLp, gLp, kLp, bLp, GLp⟩ := hLp
  obtain ⟨fLd, dLd, gLd, kLd, bLd, GLd⟩ := hLd
  refine has_of F g (F.binds (ps := ["_law_state_here", "_law_deep", "_law_inner", "_law_inside"]) fun _ _ _ _ _ _ us hl => match us, hl with | [_, _, _, _], _ => rfl) (F.ok scLpc (fun vs H Q E h => ?_) (fun cdv A outer s H vs Q E hr h => ?_))
  · obtain ⟨l, S, R, m, bu, d, ins, rfl, _⟩ := h
    rfl
  · refine ⟨_, (pss_cons (ps_asg (pe_op op_sub (pe_ix ix_list (pv 0) pe_int (fun _ _ => rfl)) pe_int) (pg_sub (pv 0) pe_int set_list))
        (pss_cons (ps_set (i := 4) scLpc.nd rfl (.inl rfl) (pe_call GDr (hr.mono (by omega)) rfl gDr kDr bDr .nil pass0 (pa_cons (pv 0) (pa_cons pe_int pa_nil))))
        (pss_cons (ps_if (PW.pt (pw_and (pt_cmpR op_lt (pv 4) pe_int (nomark _)) (pw_and1 (pt_val (pv 3))))) (pss_one (ps_ret (pe_tup (pa_cons pe_str (pa_cons (pe_call GAn (hr.mono (by omega)) rfl gAn kAn bAn .nil pass0 (pa_cons (pv 0) (pa_cons pe_int (pa_cons pe_int pa_nil)))) pa_nil))))) pss_nil)
        (pss_cons (ps_if (pt_cmpR op_lt (pv 4) pe_int (nomark _)) (pss_one (ps_ret (pe_tup (pa_cons pe_str (pa_cons (pe_call GLb (hr.mono (by omega)) rfl gLb kLb bLb .nil pass0 (pa_cons (pv 0) pa_nil)) pa_nil))))) pss_nil)
        (pss_cons (ps_if (pt_cmpR op_eq (pv 4) pe_int (nomark _)) (pss_one (ps_ret (pe_tup (pa_strT (L2.pat_cons (CwR.pet_replC (pe_call GAn (hr.mono (by omega)) rfl gAn kAn bAn .nil pass0 (pa_cons (pv 0) (pa_cons pe_int (pa_cons pe_int pa_nil))))) L2.pat_nil))))) pss_nil)
        (pss_cons (ps_if (pt_cmpR op_eq (pv 4) pe_int (nomark _)) (pss_one (ps_ret (pe_tup (pa_strT (L2.pat_cons (CwR.pet_replC (pe_call GAn (hr.mono (by omega)) rfl gAn kAn bAn .nil pass0 (pa_cons (pv 0) (pa_cons pe_int (pa_cons pe_int pa_nil))))) L2.pat_nil))))) pss_nil)
        (pss_cons (ps_if (PW.pt (pw_and (pt_cmpR op_eq (pv 4) pe_int (nomark _)) (pw_and (pt_cmpR op_gt (pv 2) pe_int (nomark _)) (pw_and1 (pt_not (pt_val (pv 3))))))) (pss_one (ps_ret (pe_tup (pa_cons pe_str (pa_cons (pe_call GLps (hr.mono (by omega)) rfl gLps kLps bLps .nil pass0 (pa_cons (pv 0) (pa_cons (pv 1) (pa_cons (pe_op op_sub (pv 2) pe_int) (pa_cons pe_bl (pa_cons pe_int pa_nil)))))) pa_nil))))) pss_nil)
        (pss_cons (ps_if (PW.pt (pw_and (pt_cmpR op_eq (pv 4) pe_int (nomark _)) (pw_and (pt_cmpR op_gt (pv 1) pe_int (nomark _)) (pw_and1 (pt_cmpR op_gt (pe_ix ix_list (pv 0) pe_int (fun _ _ => rfl)) pe_int (nomark _)))))) (pss_one (ps_ret (pe_tup (pa_cons pe_str (pa_cons (pe_call GLsc (hr.mono (by omega)) rfl gLsc kLsc bLsc .nil pass0 (pa_cons (pv 0) (pa_cons (pe_op op_sub (pv 1) pe_int) (pa_cons pe_int pa_nil)))) pa_nil))))) pss_nil)
        (pss_cons (ps_if (pt_cmpR op_eq (pv 4) pe_int (nomark _)) (pss_one (ps_ret (pe_tup (pa_cons pe_str (pa_cons (pe_call GLs (hr.mono (by omega)) rfl gLs kLs bLs .nil pass0 (pa_cons (pv 0) (pa_cons pe_int pa_nil))) pa_nil))))) pss_nil)
        (pss_cons (ps_set (i := 5) scLpc.nd rfl (.inl rfl) (pe_call GNm (hr.mono (by omega)) rfl gNm kNm bNm .nil pass0 (pa_cons (pv 0) pa_nil)))
        (pss_cons (ps_if (pt_cmpR op_eq (pe_call GDr (hr.mono (by omega)) rfl gDr kDr bDr .nil pass0 (pa_cons (pv 0) (pa_cons pe_int pa_nil))) pe_int (nomark _)) (pss_one (ps_set (i := 5) scLpc.nd rfl (.inl rfl) (pe_call GLp (hr.mono (by omega)) rfl gLp kLp bLp .nil pass0 (pa_cons (pv 0) pa_nil)))) pss_nil)
        (pss_one (ps_ret (pe_tup (pa_cons pe_str (pa_cons (pv 5) (pa_cons (pe_call GLd hr rfl gLd kLd bLd .nil pass0 (pa_cons (pv 0) (pa_cons (pv 1) (pa_cons (pv 2) (pa_cons (pv 5) pa_nil))))) pa_nil))))))))))))))))), ?_⟩
    obtain ⟨l, S, R, m, bu, d, ins, rfl, hm, T, hl, k⟩ := h
    have c10 : 577 ≤ cP n := by
      cases n with
      | zero => decide
      | succ n =>
        have := cN_ge n
        show 577 ≤ cN n + 13
        omega
    obtain ⟨rs, j, T0, l0⟩ := T
    obtain ⟨hS, hR, hf, hlr, hp, hj, hne⟩ := T0
    refine ⟨_, rfl, S, _, _, _, rfl, rfl, sqH hS, rfl, _, _, rfl, rfl, _, rfl, S, _, _, _, rfl, rfl, hS, rfl, ?_⟩
    have T1 : St (bu - 1) (L2.upd H S (.lst [.ref R, .int j, .int 14, .int (bu - 1)])) S R m := ⟨rs, j, ⟨upd_same, by rw [upd_ne (Ne.symm hne)]; exact hR, hf, hlr, hp, hj, hne⟩, l0⟩
    have s1 : Same (U S R H) (U S R (L2.upd H S (.lst [.ref R, .int j, .int 14, .int (bu - 1)]))) := U_off fun b n1 _ => upd_ne n1
    have l1 := hl.same s1
    refine ⟨_, rfl, drw S R (L2.upd H S (.lst [.ref R, .int j, .int 14, .int (bu - 1)])) m _ 12 _ _ T1 (by omega) (by decide) (by decide) fun H2 r hr2 T2 s2 _ => ?_⟩
    have a2 := s1.trans s2
    have l2 := l1.same s2
    -- a piece of a kind and a text
    have txt : ∀ {Ha : Hp} {ba : Int} {kk x : Str}, St ba Ha S R (m + cP n) → Same (U S R H2) (U S R Ha) → TxK kk → Tx x → txtB ins kk x = true → ∀ T0, Ha T0 = none → Q (.ref T0) (L2.upd Ha T0 (.tup [.str kk, .str x])) := fun Ta sa hk hx hb T0 nT =>
      k _ _ _ _ (Ta.upd (Ta.ne nT)) ((a2.trans sa).trans (U_new nT)) (mk_tupL nT (Ta.ne nT) ((l2.same sa).no nT) (.cons (.str _) (.cons (.str _) .nil))) (pc_txt hk hx hb)
    refine (pu_and (pu_lt rfl) fun _ => pu_var rfl) _ (if_by (fun e => ?_) (fun e5 => ?_))
    · rw [Bool.and_eq_true] at e
      have h5 := of_decide_eq_true e.1
      obtain rfl : ins = true := e.2
      exact ⟨_, rfl, S, R, m + 1, bu - 1, 1, 6, rfl, by decide, by decide, by omega, T2, fun H3 x T3 s3 ok h1 h6 => ⟨(by decide : 2 ≤ sizeLine), txt (T3.le (by omega)) s3 txK_plain (ok.tx (by omega)) (by rw [b_plain]; exact decide_eq_true fun z => by rw [z] at h1; exact absurd h1 (by decide +kernel))⟩⟩
    have no5 : r < 5 → ins = false := fun h => by
      rw [decide_eq_true (by omega : ((r : Nat) : Int) < 5), Bool.true_and] at e5
      exact e5
    refine (pu_lt rfl) _ (if_by (fun e => ?_) (fun e3 => ?_))
    · have h3 := of_decide_eq_true e
      obtain rfl := no5 (by omega)
      exact ⟨_, rfl, S, R, m + 1, bu - 1, rfl, by omega, T2, fun H3 x T3 s3 hb ok h6 => ⟨(by decide : 2 ≤ sizeLine), txt (T3.le (by omega)) s3 txK_bare (ok.tx (by omega)) (by rw [b_bare]; exact hb)⟩⟩
    have r3 : 3 ≤ r := by
      have := of_decide_eq_false e3
      omega
    refine (pu_eq rfl) _ (if_by (fun e => ?_) (fun e4 => ?_))
    · have h3 := V.int.inj (of_decide_eq_true e)
      obtain rfl := no5 (by omega)
      refine ⟨_, rfl, S, R, m + 1, bu - 1, 0, 6, rfl, by decide, by decide, by omega, T2, fun H3 x T3 s3 ok h1 h6 => ⟨x, rfl, ?_, (by decide : 2 ≤ sizeLine), txt (T3.le (by omega)) s3 txK_held ((ok.repl (a := 39) (b := 126) (by decide +kernel) (by decide +kernel) (by decide)).tx ?_) ?_⟩⟩
      · show x.length + (x.length + 1) * 1 ≤ 16777216
        omega
      · rw [repl_len (a := 39) (b := 126) (by decide +kernel) (by decide +kernel)]
        omega
      · rw [b_held, decide_eq_false held_no]
        rfl
    have ne3 : r ≠ 3 := fun z => of_decide_eq_false e4 (by rw [z]; rfl)
    refine (pu_eq rfl) _ (if_by (fun e => ?_) (fun e6 => ?_))
    · have h3 := V.int.inj (of_decide_eq_true e)
      obtain rfl := no5 (by omega)
      refine ⟨_, rfl, S, R, m + 1, bu - 1, 1, 1, rfl, by decide, by decide, by omega, T2, fun H3 x T3 s3 ok h1 h6 => ⟨x, rfl, ?_, (by decide : 2 ≤ sizeLine), txt (T3.le (by omega)) s3 txK_mark ((ok.repl (a := 10) (b := 39) (by decide +kernel) (by decide +kernel) (by decide)).tx ?_) ?_⟩⟩
      · show x.length + (x.length + 1) * 1 ≤ 16777216
        omega
      · rw [repl_len (a := 10) (b := 39) (by decide +kernel) (by decide +kernel)]
        omega
      · rw [b_mark, decide_eq_true mark_no, repl_len (a := 10) (b := 39) (by decide +kernel) (by decide +kernel), decide_eq_true (by omega : x.length = 1)]
        rfl
    have ne4 : r ≠ 4 := fun z => of_decide_eq_false e6 (by rw [z]; rfl)
    have r5 : 5 ≤ r := by omega
    refine (pu_and (pu_eq rfl) fun _ => pu_and (pu_gt rfl) fun _ => pu_not rfl) _ (if_by (fun e => ?_) (fun e7 => ?_))
    · rw [Bool.and_eq_true, Bool.and_eq_true] at e
      have hn := of_decide_eq_true e.2.1
      have hi : ins = false := by
        cases ins with
        | false => rfl
        | true => cases e.2.2
      subst hi
      have cn : cP n = cN (n - 1) + 13 := by
        cases n with
        | zero => omega
        | succ n => rfl
      refine ⟨_, rfl, _, rfl, _, rfl, _, _, rfl, rfl, psw l S R H2 (m + 1) (bu - 1) d true 0 _ _ _ rfl (by omega) (by decide) (by omega) T2 l2 fun H3 v ws bu2 T3 s3 dv wr lw lw3 => ⟨(by decide : 2 ≤ sizeLine), fun T0 nT => ?_⟩⟩
      exact k _ _ (.tuple [.str "wide", .list ws]) _ ((T3.upd (T3.ne nT)).le (by omega)) ((a2.trans s3).trans (U_new nT)) (mk_tupL nT (T3.ne nT) ((l2.same s3).no nT) (.cons (.str _) (.cons dv .nil))) (.inr (.inl ⟨ws, true, true, rfl, wr, rfl, rfl⟩))
    obtain ⟨rs2, j2, T20, l20⟩ := id T2
    have hS2 := T20.at_
    refine (pu_and (pu_eq rfl) fun _ => pu_and (pu_gt rfl) fun _ => pu_ix hS2 rfl) _ (if_by (fun e => ?_) (fun e8 => ?_))
    · refine ⟨_, rfl, _, rfl, _, _, rfl, rfl, l, S, R, m + 1, bu - 1, d - 1, rfl, by omega, T2, l2, fun H3 v cs T3 s3 dv hcs => ⟨(by decide : 2 ≤ sizeLine), fun T0 nT => ?_⟩⟩
      have hall : ∃ bs : List Bool, cs.length ≤ 1 ∧ All2 CRo cs bs ∧ (∀ c ∈ cs, Sh 13 c) ∧ bs.all id = true := by
        rcases hcs with rfl | rfl
        · exact ⟨[], by decide, .nil, fun c m => (by cases m), rfl⟩
        · exact ⟨[true], by decide, .cons rfl .nil, fun c m => (by rw [List.mem_singleton.mp m]; exact sh_mono (sh_cmd true) (by decide)), rfl⟩
      obtain ⟨bs, b1, b2, b3, b4⟩ := hall
      exact k _ _ (.tuple [.str "run", .list cs]) _ ((T3.upd (T3.ne nT)).le (by omega)) ((a2.trans s3).trans (U_new nT)) (mk_tupL nT (T3.ne nT) ((l2.same s3).no nT) (.cons (.str _) (.cons dv .nil))) (.inr (.inr (.inr (.inr ⟨cs, bs, rfl, b1, b2, b3, rfl, b4.symm⟩))))
    refine (pu_eq rfl) _ (if_by (fun e => ?_) (fun e9 => ?_))
    · refine ⟨_, rfl, smw l S R H2 (m + 1) _ _ _ (by omega) T2 l2 fun H3 v t bu2 T3 s3 dv ht hh hz => ⟨(by decide : 2 ≤ sizeLine), fun T0 nT => ?_⟩⟩
      obtain ⟨i1, i2, i3⟩ := drn_tm ht
      refine k _ _ (.tuple [.str "sum", t.d]) _ ((T3.upd (T3.ne nT)).le (by omega)) ((a2.trans s3).trans (U_new nT)) (mk_tupL nT (T3.ne nT) ((l2.same s3).no nT) (.cons (.str _) (.cons dv .nil))) (.inr (.inr (.inr (.inl ⟨t.tm, ?_, ⟨tm_fine i2, drn_lawf ht⟩, ?_, ?_, ?_, rfl⟩))))
      · rw [tm_d]
      · rw [tm_ht]
        omega
      · rw [tm_d]
        exact i3.mono (by omega) (by omega)
      · rw [tm_ok]
        exact i1.symm
    refine ⟨_, rfl, S, R, m + 1, bu - 1, rfl, by omega, T2, fun H3 x T3 s3 hx hx5 => ?_⟩
    have s23 := s3
    have fin : ∀ (Ha : Hp) (y : Str), St (bu - 1) Ha S R (m + 10) → Same (U S R H3) (U S R Ha) → (isNameB (cs y) || isPlB (cs y)) = true → Tx y → ∀ (σ : L2.St) (D : Ends), σ[0]? = some (some (.ref S)) → σ[1]? = some (some (.int d)) → σ[2]? = some (some (.int (n : Nat))) → σ[5]? = some (some (.str y)) → D.rt = Q →
        tRet (tTup (tCons (tC (.str "name")) (tCons (tVar 5) (tCons (tCall (spLd K n) [] E0 (tCons (tVar 0) (tCons (tVar 1) (tCons (tVar 2) (tCons (tVar 5) tNil))))) tNil)))) D σ Ha := fun Ha y Ta sa hy ty σ D g0 g1 g2 g5 hD => by
      have a3 := (a2.trans s3).trans sa
      refine ⟨_, g5, _, g0, _, g1, _, g2, _, g5, l, S, R, m + 10, bu - 1, d, y, rfl, ?_, Ta, hl.same a3, fun H5 v dd bu5 T5 s5 dv hdd => ⟨(by decide : 3 ≤ sizeLine), fun T0 nT => ?_⟩⟩
      · omega
      · rw [hD]
        refine k _ _ (.tuple [.str "name", .str y, dd]) _ ((T5.upd (T5.ne nT)).le (by omega)) ((a3.trans s5).trans (U_new nT)) (mk_tupL nT (T5.ne nT) ((hl.same (a3.trans s5)).no nT) (.cons (.str _) (.cons (.str _) (.cons dv .nil)))) (.inr (.inr (.inl ⟨y, dd, true, rfl, ty, hdd, ?_⟩)))
        rw [hy]
        rfl
    refine ⟨_, rfl, drw _ _ _ _ _ 3 _ _ T3 (by omega) (by decide) (by decide) fun H4 q hq T4 s4 _ => ⟨rfl, _, rfl, if_by (fun e => ?_) (fun e => ?_)⟩⟩
    · refine ⟨_, rfl, S, R, _, bu - 1, rfl, ?_, T4, fun H5 y T5 s5 hy => ?_⟩
      · omega
      · have ty : Tx y := (by
          have := (by decide +kernel : ∀ y ∈ wPlc, y.length ≤ 20 ∧ PyData.strOk y = true) y hy
          exact ⟨this.1, this.2⟩)
        exact fin H5 y (T5.le (by omega)) (s4.trans s5) (nm_ok (.inr hy)) ty _ _ rfl rfl rfl rfl rfl
    · exact fin H4 x (T4.le (by omega)) s4 (nm_ok (.inl hx)) ((name_okT hx).tx (by omega)) _ _ rfl rfl rfl rfl rfl
end
end Qb
end PySem
namespace PySem
namespace Qb
open PySem.W PySem.Calls PyProof.Rows L2
/-! # lists of pieces that are drawn -/
theorem pc_head2 {n : Nat} {i : Bool} {p : PyData} {b r : Bool} (h : PcR CRo (WsR CRo n false) (WsR CRo n true) i p b r) : ∃ y l, p = .tuple (.str y :: l) := by
  rcases h with ⟨k, x, rfl, _⟩ | ⟨w, bw, rw, rfl, _⟩ | ⟨x, d, bd, rfl, _⟩ | ⟨t, rfl, _⟩ | ⟨cs, bs, rfl, _⟩
  · exact ⟨_, _, rfl⟩
  · exact ⟨_, _, rfl⟩
  · exact ⟨_, _, rfl⟩
  · exact ⟨_, _, rfl⟩
  · exact ⟨_, _, rfl⟩
theorem ws_of {n : Nat} {i : Bool} : ∀ (ws : List PyData), (∀ p ∈ ws, PcR CRo (WsR CRo n false) (WsR CRo n true) i p true true) → All2 (fun p q => PcR CRo (WsR CRo n false) (WsR CRo n true) i p q.1 q.2) ws (ws.map fun _ => ((true, true) : Bool × Bool))
  | [], _ => .nil
  | p :: ws, h => .cons (h p (.head _)) (ws_of ws fun q m => h q (.tail _ m))
theorem all_tt (ws : List PyData) : ((ws.map fun _ => ((true, true) : Bool × Bool)).all (·.1)) = true ∧ ((ws.map fun _ => ((true, true) : Bool × Bool)).all (·.2)) = true := by
  induction ws with
  | nil => exact ⟨rfl, rfl⟩
  | cons p ws ih => exact ⟨by rw [List.map_cons, List.all_cons, ih.1]; rfl, by rw [List.map_cons, List.all_cons, ih.2]; rfl⟩
theorem ws_good {n : Nat} {i : Bool} {ws : List PyData} (hl : ws.length ≤ n + 3) (h : ∀ p ∈ ws, PcR CRo (WsR CRo n false) (WsR CRo n true) i p true true) (nb : nbB (nbK i) ws = false) : WsR CRo (n + 1) i ws true true :=
  ⟨hl, _, ws_of ws h, by rw [(all_tt ws).1, nb]; rfl, (all_tt ws).2.symm⟩
theorem nbK_in (i : Bool) : nbK i = "bare" ∨ nbK i = "plain" := by cases i; exact .inl rfl; exact .inr rfl
theorem in_bp {k : Str} (h : inV (.str k) ((["bare", "plain"] : List Str).map V.str) = false) (i : Bool) : k ≠ nbK i := fun z => by
  rw [inV_iff] at h
  have := of_decide_eq_false h
  rcases nbK_in i with e | e
  · rw [e] at z; rw [z] at this; exact this (by decide +kernel)
  · rw [e] at z; rw [z] at this; exact this (by decide +kernel)
/-- whether a piece may stand behind the others -/
theorem tst_app {K : Frag} {k : Str} (hk : k = "bare" ∨ k = "plain") {σ : L2.St} {H : Hp} {D : Addr} {v : V} {ws : List PyData} {p : PyData} (h5 : σ[5]? = some (some (.ref D))) (h7 : σ[7]? = some (some v)) (dD : Dp K H (.ref D) (.list ws)) (dv : Dp K H v p) (sh : SeqAt.shaped (.list ws) = true)
    (hh : ∀ q ∈ ws, ∃ y l, q = .tuple (.str y :: l)) (hp : ∃ y l, p = .tuple (.str y :: l)) (nb : nbB k ws = false) {Q : Bool → Hp → Prop} (q : ∀ b H5, Same H H5 → (b = true → nbB k (ws ++ [p]) = false) → (b = false → ws ≠ []) → Q b H5) :
    tOr (tTest (tOp (rEqD K) (tVar 5) (tLst tNil))) (tOr (tTest (tOp (rIn K true) (tOp (rIxT K) (tVar 7) (tC (.int 0))) (tLst (tCons (tC (.str "bare")) (tCons (tC (.str "plain")) tNil)))))
      (tTest (tOp rNe (tOp (rIxT K) (tOp (rIxL K) (tVar 5) (tUn (rU fun i => .int (-i)) (tC (.int 1)))) (tC (.int 0))) (tOp (rIxT K) (tVar 7) (tC (.int 0)))))) σ H Q := by
  obtain ⟨y, lp, rfl⟩ := hp
  refine rd_eqnil h5 dD sh fun H1 s1 => ⟨_, rfl, if_by (fun e => ?_) (fun e => ?_)⟩
  · have e0 : ws = [] := List.isEmpty_iff.mp e
    subst e0
    exact q _ _ s1 (fun _ => rfl) (fun h => by cases h)
  have ne : ws ≠ [] := fun z => by rw [z] at e; cases e
  obtain ⟨b, z, rfl, qv⟩ := head_read (dp_same s1 dv)
  refine ⟨_, h7, b, _, 0, _, rfl, rfl, qv, atI_nat (j := 0) rfl, (by decide : 2 ≤ sizeLine), fun L nL => ?_⟩
  have s2 := s1.trans (same_upd (o := .lst [.str "bare", .str "plain"]) nL)
  have hL : (L2.upd H1 L (.lst [.str "bare", .str "plain"])) L = some (.lst [.str "bare", .str "plain"]) := upd_same
  generalize L2.upd H1 L (.lst [.str "bare", .str "plain"]) = H2 at s2 hL ⊢
  refine ⟨L, ([("bare" : Str), "plain"]).map V.str, rfl, .inl (SqL.of hL), rfl, by decide +kernel, _, rfl, ?_⟩
  rw [if_pos rfl]
  have snoc := nb_snoc k (.tuple (.str y :: lp)) ws
  obtain ⟨lq, hlq⟩ : ∃ q, ws.getLast? = some q := by
    cases e : ws.getLast? with
    | none => exact absurd (List.getLast?_eq_none_iff.mp e) ne
    | some q => exact ⟨q, rfl⟩
  rw [nb, hlq, Bool.false_or] at snoc
  have snoc : nbB k (ws ++ [.tuple (.str y :: lp)]) = (decide (headK lq = k) && decide (y = k)) := snoc
  refine if_by (fun e2 => ?_) (fun e2 => ?_)
  · refine q _ _ s2 (fun _ => ?_) (fun h => by cases h)
    rw [snoc]
    have e3 : inV (.str y) (([("bare" : Str), "plain"]).map V.str) = false := by
      cases h : inV (.str y) (([("bare" : Str), "plain"]).map V.str) with
      | false => rfl
      | true => rw [h] at e2; cases e2
    rw [inV_iff] at e3
    have e4 := of_decide_eq_false e3
    rw [decide_eq_false (fun z => e4 (by rcases hk with h | h <;> rw [z, h] <;> decide +kernel) : ¬ y = k), Bool.and_false]
  · obtain ⟨a, xs, ea, hq, all⟩ := dp_lst (dp_same s2 dD)
    obtain rfl := V.ref.inj ea
    have lx := dpLen all
    have hl : ws[ws.length - 1]? = some lq := by rw [← List.getLast?_eq_getElem?]; exact hlq
    obtain ⟨x, hx, dx⟩ := dpAt all hl
    obtain ⟨yq, lq', rfl⟩ := hh lq (List.mem_of_getElem? hl)
    obtain ⟨c, z', rfl, qc⟩ := head_read dx
    obtain ⟨b', z2, eb, qv2⟩ := head_read (dp_same s2 dv)
    obtain rfl := V.ref.inj eb
    have wl : 0 < ws.length := List.length_pos_iff.mpr ne
    have at1 : atI xs (-1) = some (.ref c) := by
      have e1 : ixN xs.length (-1) = some (ws.length - 1) := by
        unfold ixN
        rw [if_neg (by decide), if_pos (by omega), show ((-1 : Int) + (xs.length : Int)).toNat = ws.length - 1 by omega]
      unfold atI
      rw [e1]
      exact hx
    refine ⟨_, h5, 1, rfl, D, _, _, _, rfl, rfl, hq, at1, c, _, 0, _, rfl, rfl, qc, atI_nat (j := 0) rfl, _, h7, b, _, 0, _, rfl, rfl, qv2, atI_nat (j := 0) rfl, rfl, _, rfl, ?_⟩
    refine q _ _ s2 (fun h => ?_) (fun _ => ne)
    rw [snoc]
    show (decide (yq = k) && decide (y = k)) = false
    have ny : yq ≠ y := fun z => by
      rw [z, decide_eq_true rfl] at h
      cases h
    by_cases hy : y = k
    · rw [decide_eq_false fun z => ny (z.trans hy.symm), Bool.false_and]
    · rw [decide_eq_false hy, Bool.and_false]
section
variable {P : Program} {w : World} {K : Frag} {mg : Str → Option Value} {base : Heap}
abbrev sLps : Stmt := top 72
abbrev nLps : List Str := ["_law_state_here", "_law_deep", "_law_inner", "_law_inside", "_law_least", "_law_pieces_here", "_law_k", "_law_piece_here"]
theorem scLps : FnScope nLps ["_law_state_here", "_law_deep", "_law_inner", "_law_inside", "_law_least"] (defScope sLps) := ⟨rfl, rfl, rfl, by decide +kernel, rfl, by decide +kernel, by decide +kernel⟩
theorem has_Lps {n L : Nat} (l1 : 1 ≤ L) (l14 : n ≤ 10) {f : Addr} {fd : FuncData}  (F : Fun K "_law_pieces" "_law_pieces" sLps f fd) (g : mg "_law_pieces" = some (.ref f)) (B : Blt mg) {spD : Sp} (drw : DrwT spD) (hDr : Has P w K mg base 1 "_law_draw" ["_law_state_here", "_law_many"] spD) (hLpc : Has P w K mg base L "_law_piece" ["_law_state_here", "_law_deep", "_law_inner", "_law_inside"] (spLpc K n)) :
    Has P w K mg base (L + 1) "_law_pieces" ["_law_state_here", "_law_deep", "_law_inner", "_law_inside", "_law_least"] (spPs K (n + 1)) := by
  obtain ⟨fDr, dDr, gDr, kDr, bDr, GDr⟩ := hDr
  obtain ⟨fLpc, dLpc, gLpc, kLpc, bLpc, GLpc⟩ := hLpc
  refine has_of F g (F.binds (ps := ["_law_state_here", "_law_deep", "_law_inner", "_law_inside", "_law_least"]) fun _ _ _ _ _ _ us hl => match us, hl with | [_, _, _, _, _], _ => rfl) (F.ok scLps (fun vs H Q E h => ?_) (fun cdv A outer s H vs Q E hr h => ?_))
  · obtain ⟨l, S, R, m, bu, d, ins, least, rfl, _⟩ := h
    rfl
  · refine ⟨_, (pss_cons (ps_if (pt_cmpR op_le (pe_ix ix_list (pv 0) pe_int (fun _ _ => rfl)) pe_int (nomark _)) (pss_one (ps_ret (pe_slice sl_list (pe_lst (pa_cons (pe_tup (pa_cons (pe_ix ix_list (pe_lst (pa_cons pe_str (pa_cons pe_str pa_nil))) (pe_callTy call_int1 (by rfl) B.int (by decide +kernel) (pa_cons (pv 3) pa_nil)) (fun _ _ => rfl)) (pa_cons pe_str pa_nil))) pa_nil)) po_none (po_some (pv 4))))) pss_nil)
        (pss_cons (ps_set (i := 5) scLps.nd rfl (.inl rfl) (pe_lst pa_nil))
        (pss_cons (ps_for PassesOwn.never rfl (pi_range1 (by rfl) B.range (pa_cons (pe_op op_add (pv 4) (pe_call GDr (hr.mono (by omega)) rfl gDr kDr bDr .nil pass0 (pa_cons (pv 0) (pa_cons pe_int pa_nil)))) pa_nil)) (pg_name (i := 6) scLps.nd rfl (.inl rfl))
          (pss_cons (ps_set (i := 7) scLps.nd rfl (.inl rfl) (pe_call GLpc hr rfl gLpc kLpc bLpc .nil pass0 (pa_cons (pv 0) (pa_cons (pv 1) (pa_cons (pv 2) (pa_cons (pv 3) pa_nil))))))
          (pss_one (ps_if (PW.pt (pw_or (pt_cmpR (op_eqD hr.units) (pv 5) (pe_lst pa_nil) (nomark _)) (pw_or (pt_cmpR op_notIn_seq (pe_ix ix_tup (pv 7) pe_int (fun _ _ => rfl)) (pe_lst (pa_cons pe_str (pa_cons pe_str pa_nil))) (by rfl)) (pw_or1 (pt_cmpR op_ne (pe_ix ix_tup (pe_ix ix_list (pv 5) (pe_un un_neg pe_int) (fun _ _ => rfl)) pe_int (fun _ _ => rfl)) (pe_ix ix_tup (pv 7) pe_int (fun _ _ => rfl)) (nomark _)))))) (pss_one (ps_expr (pe_bm PySem.F.plainAttrs_list PySem.F.slot_list_append PySem.F.type_list_append mt_append (pv 5) (pa_cons (pv 7) pa_nil)))) pss_nil))))
        (pss_one (ps_ret (pv 5)))))), ?_⟩
    obtain ⟨l, S, R, m, bu, d, ins, least, rfl, lle, hm, T, hl, k⟩ := h
    have cge := cN_ge n
    have cp : cN n = 3 * cP n + 9 ∨ cN n = 3 * cP n + 1 := by
      cases n with
      | zero => exact .inl rfl
      | succ n =>
        right
        show 3 * cN n + 40 = 3 * (cN n + 13) + 1
        omega
    obtain ⟨rs, j, T0, l0⟩ := id T
    have hS := T0.at_
    refine ⟨_, rfl, S, _, _, _, rfl, rfl, sqH hS, rfl, _, _, rfl, rfl, _, rfl, if_by (fun e => ?_) (fun e => ?_)⟩
    · -- nothing is left to draw from
      refine ⟨(by decide : 2 ≤ sizeLine), fun L0 nL => ?_⟩
      have q1 := U_new (S := S) (R := R) (o := .lst [.str "bare", .str "plain"]) nL
      have T1 := T.upd (o := .lst [.str "bare", .str "plain"]) (T.ne nL)
      have li := hl.same q1
      have hL : (L2.upd H L0 (.lst [.str "bare", .str "plain"])) L0 = some (.lst [.str "bare", .str "plain"]) := upd_same
      generalize L2.upd H L0 (.lst [.str "bare", .str "plain"]) = H1 at q1 T1 li hL ⊢
      have hx : atI [V.str "bare", .str "plain"] (if ins = true then (1 : Int) else 0) = some (.str (nbK ins)) := by
        cases ins
        · exact atI_nat (j := 0) rfl
        · exact atI_nat (j := 1) rfl
      refine ⟨_, rfl, .inr ⟨_, rfl, ?_⟩⟩
      refine ⟨L0, _, _, _, rfl, rfl, SqL.of hL, hx, ?_⟩
      refine ⟨(by decide : 2 ≤ sizeLine), fun T1' n1 => ?_⟩
      have t1 := T1.ne n1
      have q2 := q1.trans (U_new (o := .tup [.str (nbK ins), .str "a"]) n1)
      have d2 := mk_tupL (K := K) n1 t1 (li.no n1) (.cons (.str (nbK ins)) (.cons (.str "a") .nil))
      have T2 := T1.upd (o := .tup [.str (nbK ins), .str "a"]) t1
      have l2 := li.same (U_new (o := .tup [.str (nbK ins), .str "a"]) n1)
      generalize L2.upd H1 T1' (.tup [.str (nbK ins), .str "a"]) = H2 at q2 d2 T2 l2 ⊢
      refine ⟨(by decide : 1 ≤ sizeLine), fun D0 n2 => ?_⟩
      have q3 := U_new (S := S) (R := R) (o := .lst [.ref T1']) n2
      have T3 := T2.upd (o := .lst [.ref T1']) (T2.ne n2)
      refine ⟨_, rfl, _, rfl, D0, _, rfl, SqL.of upd_same, fun p np => ?_⟩
      have l3 := l2.same q3
      have d3 := dp_same (UL_same q3) d2
      generalize L2.upd H2 D0 (.lst [.ref T1']) = H3 at q3 T3 l3 d3 np ⊢
      have pk : PcR CRo (WsR CRo n false) (WsR CRo n true) ins (.tuple [.str (nbK ins), .str "a"]) true true := by
        cases ins
        · exact pc_txt txK_bare ⟨by decide +kernel, by decide +kernel⟩ (by decide +kernel)
        · exact pc_txt txK_plain ⟨by decide +kernel, by decide +kernel⟩ (by decide +kernel)
      obtain rfl | rfl : least = 0 ∨ least = 1 := by omega
      · exact k _ _ [] _ ((T3.upd (T3.ne np)).le (by omega)) ((q2.trans q3).trans (U_new np)) (mk_lstL np (T3.ne np) (l3.no np) .nil) (ws_good (Nat.zero_le _) (fun p m => by cases m) rfl) (Nat.le_refl _) (by decide)
      · exact k _ _ [.tuple [.str (nbK ins), .str "a"]] _ ((T3.upd (T3.ne np)).le (by omega)) ((q2.trans q3).trans (U_new np)) (mk_lstL np (T3.ne np) (l3.no np) (.cons d3 .nil)) (ws_good (by show 1 ≤ n + 3; omega) (fun p m => by rw [List.mem_singleton.mp m]; exact pk) rfl) (Nat.le_refl _) (by show 1 ≤ 3; decide)
    · refine ⟨(by decide : 0 ≤ sizeLine), fun D hD => ?_⟩
      have nD := T.ne hD
      have q1 := U_new (S := S) (R := R) (o := .lst []) hD
      have T1 := T.upd (o := .lst []) nD
      have l1 := hl.same q1
      have mk1 := MkU.start (K := K) (H := H) nD (hl.no hD)
      generalize L2.upd H D (.lst []) = H1 at q1 T1 l1 mk1 ⊢
      refine ⟨_, rfl, _, rfl, drw _ _ _ m _ 3 _ _ T1 (by omega) (by decide) (by decide) fun H2 r hr2 T2 s2 _ => ?_⟩
      have a2 := q1.trans s2
      refine ⟨_, _, rfl, rfl, _, rfl, ?_, ?_, ?_⟩
      · omega
      · omega
      have em : ((least : Int) + (r : Int)).toNat = least + r := by omega
      have cpl : (least + r) * cP n ≤ 3 * cP n := Nat.mul_le_mul_right _ (by omega)
      refine for_it (walk_range (lo := 0) (n := ((least : Int) + (r : Int)).toNat)) (fun i σ H' => (∃ u w, σ = [some (.ref S), some (.int d), some (.int (n : Nat)), some (.bl ins), some (.int (least : Nat)), some (.ref D), u, w]) ∧ (∃ bu', St bu' H' S R (m + 1 + i * cP n)) ∧ Same (U S R H) (U S R H') ∧ ∃ ws, MkU K l S R D ws H' ∧ ws.length ≤ i ∧ (1 ≤ i → 1 ≤ ws.length) ∧ (∀ p ∈ ws, PcR CRo (WsR CRo n false) (WsR CRo n true) ins p true true) ∧ nbB (nbK ins) ws = false)
        ⟨⟨_, _, rfl⟩, ⟨_, T2.le (by omega)⟩, a2, [], mk1.same s2, Nat.le_refl _, fun h => absurd h (by decide), fun p mm => (by cases mm), rfl⟩ (fun _ _ _ _ _ => trivial) (fun i x σ Ha H' hi e y => ?_) (fun σ H' e => ?_)
      · obtain ⟨⟨u, w', rfl⟩, ⟨bu', T3⟩, s3, ws, mk, lw, lw1, hp, nb⟩ := e
        obtain ⟨rfl, rfl⟩ := y
        have hi' : i < least + r := by omega
        have ip : (i + 1) * cP n ≤ (least + r) * cP n := Nat.mul_le_mul_right _ hi'
        rw [Nat.add_mul, Nat.one_mul] at ip
        have a3 := s3
        have nl := mk.lsts (hl.same a3)
        refine ⟨_, rfl, _, rfl, _, rfl, _, rfl, D :: l, S, R, _, bu', d, ins, rfl, ?_, T3, nl, fun H4 v p bu4 T4 s4 dv pc => ?_⟩
        · omega
        have mk4 := mk.same s4
        have shw : SeqAt.shaped (.list ws) = true := sh_ok (sh_mono (sh_lst (ws_sh (n + 1) (ws_good (by omega) hp nb))) (by omega) : Sh 60 _) (by decide)
        have back : Same (UL (D :: l) S R H4) H4 := UL_back.trans U_back
        have dD : Dp K H4 (.ref D) (.list ws) := dp_same (UL_back.trans U_back) mk4.fin
        refine tst_app (nbK_in ins) rfl rfl dD (dp_same back dv) shw (fun q mm => pc_head2 (hp q mm)) (pc_head2 pc) nb fun b H5 s5 hb hb2 => ?_
        have u5 := U_same (S := S) (R := R) s5
        have mk5 := mk4.same u5
        have T5 := (T4.same s5).le (k := m + 1 + (i + 1) * cP n) (by rw [Nat.add_mul, Nat.one_mul]; omega)
        cases b with
        | false =>
          have ne := hb2 rfl
          refine ⟨⟨_, _, rfl⟩, ⟨_, T5⟩, (s3.trans s4).trans u5, ws, mk5, by omega, fun _ => List.length_pos_iff.mpr ne, hp, nb⟩
        | true =>
          obtain ⟨ys, f1, f2, f3⟩ := mk5.add (dp_same (UL_same u5) dv)
          have nDD := mk5
          refine ⟨_, rfl, .inl ⟨rfl, _, SqL.of f1⟩, _, rfl, D, ys, v, rfl, rfl, f1, ?_, ⟨_, _, rfl⟩, ⟨_, T5.upd nD⟩, U_upd2 ((s3.trans s4).trans u5) hD, ws ++ [p], f3, ?_, fun _ => ?_, ?_, hb rfl⟩
          · rw [f2, sizeLine_eq]
            omega
          · rw [List.length_append, List.length_singleton]
            omega
          · rw [List.length_append, List.length_singleton]
            omega
          · intro q mm
            rcases List.mem_append.mp mm with mm | mm
            · exact hp q mm
            · rw [List.mem_singleton.mp mm]
              exact pc
      · obtain ⟨⟨u, w', rfl⟩, ⟨bu', T3⟩, s3, ws, mk, lw, lw1, hp, nb⟩ := e
        rw [em] at T3 lw lw1
        exact ⟨_, rfl, k _ _ ws bu' (T3.le (by omega)) s3 mk.fin (ws_good (by omega) hp nb) (by omega) (by omega)⟩
/-- sums that are drawn two deep -/
theorem size_ht : ∀ (t : Sm) (n : Nat), t.ht ≤ n → 2 * t.size + 1 ≤ 3 ^ (n + 1)
  | .num _, n, _ => by
    have := Nat.one_le_pow n 3 (by decide)
    show 2 * 1 + 1 ≤ 3 ^ (n + 1)
    rw [Nat.pow_succ]
    omega
  | .of _, n, _ => by
    have := Nat.one_le_pow n 3 (by decide)
    show 2 * 1 + 1 ≤ 3 ^ (n + 1)
    rw [Nat.pow_succ]
    omega
  | .one _ a, 0, h => by have h : 1 + a.ht ≤ 0 := h; omega
  | .two _ a b, 0, h => by have h : 1 + max a.ht b.ht ≤ 0 := h; omega
  | .three _ a b c, 0, h => by have h : 1 + max a.ht (max b.ht c.ht) ≤ 0 := h; omega
  | .one _ a, n + 1, h => by
    have h : 1 + a.ht ≤ n + 1 := h
    have i := size_ht a n (by omega)
    show 2 * (1 + a.size) + 1 ≤ 3 ^ (n + 1 + 1)
    rw [Nat.pow_succ]
    have := Nat.one_le_pow (n + 1) 3 (by decide)
    omega
  | .two _ a b, n + 1, h => by
    have h : 1 + max a.ht b.ht ≤ n + 1 := h
    have i := size_ht a n (by omega)
    have j := size_ht b n (by omega)
    show 2 * (1 + a.size + b.size) + 1 ≤ 3 ^ (n + 1 + 1)
    rw [Nat.pow_succ]
    have := Nat.one_le_pow (n + 1) 3 (by decide)
    omega
  | .three _ a b c, n + 1, h => by
    have h : 1 + max a.ht (max b.ht c.ht) ≤ n + 1 := h
    have i := size_ht a n (by omega)
    have j := size_ht b n (by omega)
    have k := size_ht c n (by omega)
    show 2 * (1 + a.size + b.size + c.size) + 1 ≤ 3 ^ (n + 1 + 1)
    rw [Nat.pow_succ]
    omega
theorem smw_n (n : Nat) (hn : n = 2) : SmwT K (spLs K (n + 1)) := by
  intro l S R H m bu Q E hm T hl q
  have e2 : (2 : Int) = ((n : Nat) : Int) := by omega
  rw [e2]
  refine ⟨S, R, m, bu, rfl, ?_, T, fun H' v t T' s' dv hd hh hz _ _ => ?_⟩
  · subst hn
    exact hm
  · have z := size_ht t n hh
    subst hn
    have z : 2 * t.size + 1 ≤ 27 := z
    exact q H' v t _ (T'.le (by omega)) s' (dp_noL (hl.same s') dv) hd hh (by omega)
theorem smwT : SmwT K (spLs K 3) := smw_n 2 rfl
theorem ok_Ps {spD : Sp} (drw : DrwT spD) {fPs fPc fLd : Addr} {dPs dPc dLd : FuncData} (FPs : Fun K "_law_pieces" "_law_pieces" sLps fPs dPs) (gPs : mg "_law_pieces" = some (.ref fPs)) (FPc : Fun K "_law_piece" "_law_piece" sLpc fPc dPc) (gPc : mg "_law_piece" = some (.ref fPc)) (FLd : Fun K "_law_deed" "_law_deed" sLd fLd dLd) (gLd : mg "_law_deed" = some (.ref fLd)) (B : Blt mg)
    (hDr : Has P w K mg base 1 "_law_draw" ["_law_state_here", "_law_many"] spD) (hAn : Has P w K mg base 3 "_law_any" ["_law_state_here", "_law_least", "_law_most"] spAn) (hLb : Has P w K mg base 3 "_law_bare" ["_law_state_here"] spLb) (hLsc : Has P w K mg base 2 "_law_script" ["_law_state_here", "_law_deep", "_law_least"] (spLsc K))
    {spS : Sp} (smw : SmwT K spS) (hLs : Has P w K mg base 8 "_law_sum" ["_law_state_here", "_law_deep"] spS) (hNm : Has P w K mg base 3 "_law_name" ["_law_state_here"] spNm) (hLp : Has P w K mg base 2 "_law_place" ["_law_state_here"] spLp) : ∀ n, n ≤ 10 → Has P w K mg base (9 + 3 * n) "_law_pieces" ["_law_state_here", "_law_deep", "_law_inner", "_law_inside", "_law_least"] (spPs K n)
  | 0, _ => by
    refine has_of FPs gPs (FPs.binds (ps := ["_law_state_here", "_law_deep", "_law_inner", "_law_inside", "_law_least"]) fun _ _ _ _ _ _ us hl => match us, hl with | [_, _, _, _, _], _ => rfl) (FPs.ok scLps (fun vs H Q E h => ?_) (fun cdv A outer s H vs Q E hr h => ?_))
    · exact (show False from h).elim
    · exact (show False from h).elim
  | n + 1, l => by
    have hPs := ok_Ps drw FPs gPs FPc gPc FLd gLd B hDr hAn hLb hLsc smw hLs hNm hLp n (by omega)
    have hLd := has_Ld (L := 9 + 3 * n) (by omega) (by omega) FLd gLd B drw hDr (pswT n) hPs
    have hPc := has_Lpc (L := 9 + 3 * n) (by omega) (by omega) FPc gPc B drw hDr hAn hLb (pswT n) hPs hLsc smw hLs hNm hLp hLd
    exact has_Lps (L := 9 + 3 * n + 2) (by omega) (by omega) FPs gPs B drw hDr hPc
end
end Qb
end PySem
namespace PySem
namespace Qb
open PySem.W PySem.Calls PyProof.Rows L2
/-! # odd pieces -/
/-- what is written is made -/
def Mkd (K : Frag) (S R : Addr) (σ : L2.St) (H0 : Hp) (te : TE) (d : PyData) : Prop := ∀ (H : Hp) (Q : VK), Same H0 H → (∀ (H' : Hp) (v : V), Same H H' → Dp K (U S R H') v d → Q v H') → te σ H Q
def MkdA (K : Frag) (S R : Addr) (σ : L2.St) (H0 : Hp) (ta : TA) (ds : List PyData) : Prop := ∀ (H : Hp) (Q : List V → Hp → Prop), Same H0 H → (∀ (H' : Hp) (vs : List V), Same H H' → DpAll K (U S R H') vs ds → Q vs H') → ta σ H Q
/-- a list is made -/
def Mkl (K : Frag) (S R : Addr) (σ : L2.St) (H0 : Hp) (te : TE) (ds : List PyData) : Prop := ∀ (H : Hp) (Q : VK), Same H0 H → (∀ (H' : Hp) (a : Addr) (xs : List V), Same H H' → U S R H' a = some (.lst xs) → DpAll K (U S R H') xs ds → Q (.ref a) H') → te σ H Q
section
variable {K : Frag} {S R : Addr} {σ : L2.St} {H0 : Hp}
theorem mka_nil : MkdA K S R σ H0 tNil [] := fun H Q _ q => q H [] (Same.refl H) .nil
theorem mka_cons {te : TE} {ta : TA} {d : PyData} {ds : List PyData} (h1 : Mkd K S R σ H0 te d) (h2 : MkdA K S R σ H0 ta ds) : MkdA K S R σ H0 (tCons te ta) (d :: ds) := fun H Q s q =>
  h1 H _ s fun H1 v s1 dv => h2 H1 _ (s.trans s1) fun H2 vs s2 dvs => q H2 (v :: vs) (s1.trans s2) (.cons (dp_same (U_same s2) dv) dvs)
theorem mkd_str {x : Str} : Mkd K S R σ H0 (tC (.str x)) (.str x) := fun H Q _ q => q H _ (Same.refl H) (.str x)
theorem mkd_bl {x : Bool} : Mkd K S R σ H0 (tC (.bl x)) (.bool x) := fun H Q _ q => q H _ (Same.refl H) (.bl x)
theorem mkd_int {x : Int} : Mkd K S R σ H0 (tC (.int x)) (.int x) := fun H Q _ q => q H _ (Same.refl H) (.int x)
theorem mkd_neg {x : Int} : Mkd K S R σ H0 (tUn (rU fun i => .int (-i)) (tC (.int x))) (.int (-x)) := fun H Q _ q => ⟨x, rfl, q H _ (Same.refl H) (.int _)⟩
theorem mkd_var {i : Nat} {v : V} {d : PyData} (h : σ[i]? = some (some v)) (dv : Dp K (U S R H0) v d) : Mkd K S R σ H0 (tVar i) d := fun H Q s q => ⟨v, h, q H v (Same.refl H) (dp_same (U_same s) dv)⟩
theorem mkd_tup {bu : Int} {n : Nat} (T : St bu H0 S R n) {ta : TA} {ds : List PyData} (h : MkdA K S R σ H0 ta ds) (l : Nat.ble ds.length 1000 = true) : Mkd K S R σ H0 (tTup ta) (.tuple ds) := fun H Q s q =>
  h H _ s fun H1 vs s1 dvs => ⟨by rw [dpLen dvs]; exact small_line (by have := Nat.le_of_ble_eq_true l; omega), fun p np => q _ _ (s1.trans (same_upd np)) (mk_tupU np ((T.same (s.trans s1)).ne np) dvs)⟩
theorem mkl_lst {bu : Int} {n : Nat} (T : St bu H0 S R n) {ta : TA} {ds : List PyData} (h : MkdA K S R σ H0 ta ds) (l : Nat.ble ds.length 1000 = true) : Mkl K S R σ H0 (tLst ta) ds := fun H Q s q =>
  h H _ s fun H1 vs s1 dvs => ⟨by rw [dpLen dvs]; exact small_line (by have := Nat.le_of_ble_eq_true l; omega), fun p np => by
    have ne := (T.same (s.trans s1)).ne np
    exact q _ _ _ (s1.trans (same_upd np)) (U_set upd_same ne.1 ne.2) (dpAll_same (U_new np) dvs)⟩
theorem mkd_l {te : TE} {ds : List PyData} (h : Mkl K S R σ H0 te ds) : Mkd K S R σ H0 te (.list ds) := fun H Q s q => h H Q s fun H' a xs s' e al => q H' _ s' (.lst (SqL.of e) al)
theorem mkl_var {i : Nat} {a : Addr} {xs : List V} {ds : List PyData} (h : σ[i]? = some (some (.ref a))) (e : U S R H0 a = some (.lst xs)) (al : DpAll K (U S R H0) xs ds) : Mkl K S R σ H0 (tVar i) ds := fun H Q s q =>
  ⟨_, h, q H a xs (Same.refl H) (U_same s _ _ e) (dpAll_same (U_same s) al)⟩
theorem mkl_cat {bu : Int} {n : Nat} (T : St bu H0 S R n) {ta tb : TE} {as bs : List PyData} (ha : Mkl K S R σ H0 ta as) (hb : Mkl K S R σ H0 tb bs) (l : Nat.ble (as.length + bs.length) 1000 = true) : Mkl K S R σ H0 (tOp rCat ta tb) (as ++ bs) := fun H Q s q =>
  ha H _ s fun H1 a xs s1 ea dx => hb H1 _ (s.trans s1) fun H2 b ys s2 eb dy => by
    have ea := U_same s2 _ _ ea
    refine ⟨a, b, xs, ys, rfl, rfl, U_back _ _ ea, U_back _ _ eb, ?_, fun p np => ?_⟩
    · rw [dpLen dx, dpLen dy]
      exact small_line (by have := Nat.le_of_ble_eq_true l; omega)
    · have ne := (T.same ((s.trans s1).trans s2)).ne np
      exact q _ _ _ ((s1.trans s2).trans (same_upd np)) (U_set upd_same ne.1 ne.2) (dpAll_same (U_new np) (dpApp (dpAll_same (U_same s2) dx) dy))
theorem asg_go {i : Nat} {v : V} {D : Ends} {H : Hp} (h : D.nx (σ.set i (some v)) H) : gName i v σ H D.nx := h
theorem seq_mkl {te : TE} {ds : List PyData} {i : Nat} {t2 : TS} {D : Ends} (h : Mkl K S R σ H0 te ds) (q : ∀ (H' : Hp) (a : Addr) (xs : List V), Same H0 H' → U S R H' a = some (.lst xs) → DpAll K (U S R H') xs ds → t2 D (σ.set i (some (.ref a))) H') : tSeq (tAsg te (gName i)) t2 D σ H0 :=
  h H0 _ (Same.refl _) fun H' a xs s e al => q H' a xs s e al
theorem mkd_adds {x y : Str} {i : Nat} (h : σ[i]? = some (some (.str y))) (l : x.length + y.length ≤ sizeLine) : Mkd K S R σ H0 (tOp (fun x y H Q => ∃ i j, x = .str i ∧ y = .str j ∧ i.length + j.length ≤ sizeLine ∧ Q (.str (i ++ j)) H) (tC (.str x)) (tVar i)) (.str (x ++ y)) := fun H Q s q => ⟨_, h, x, y, rfl, rfl, l, q H _ (Same.refl H) (.str _)⟩
end
def dO : PyData := .tuple []
def txD (k x : Str) : PyData := .tuple [.str k, .str x]
def nmD (x : Str) (d : PyData) : PyData := .tuple [.str "name", .str x, d]
def ddD (k : Str) (c : Bool) (ws : List PyData) : PyData := .tuple [.str k, .bool c, .list ws]
def ctD (m : Str) (ws : List PyData) : PyData := .tuple [.str "cut", .str m, .list ws]
def wdD (ws : List PyData) : PyData := .tuple [.str "wide", .list ws]
def smD (d : PyData) : PyData := .tuple [.str "sum", d]
def rnD (cs : List PyData) : PyData := .tuple [.str "run", .list cs]
def o1 (s : Str) : List PyData := [txD "zip" "a", txD "bare" "", txD "bare" ("a" ++ s), txD "held" s, txD "held" "it's", txD "mark" s]
def o2 (s : Str) : List PyData := [txD "mark" "ab", txD "mark" "", txD "mark" "\n", txD "plain" "", txD "plain" s, txD "bare" "a"]
def o3 : List PyData := [wdD aW, wdD [], wdD [txD "plain" "a", txD "plain" "b"], wdD [txD "plain" ""]]
def o4 (s : Str) : List PyData := [nmD "1a" dO, nmD "" dO, nmD "01" dO, nmD s dO, nmD "12" sizD]
def o5 : List PyData := [nmD "#" (ddD "must" false []), nmD "#" (ctD "#" []), nmD "#" (ddD "must" true [])]
def o6 : List PyData := [nmD "#" (ctD "##" []), nmD "#" (ctD "#" aW), nmD "#" (ddD "must" false aW)]
def o7 : List PyData := [nmD "x" (ctD "#^" aW), nmD "x" (ddD "zip" false aW), nmD "x" (ddD "lack" true (aW ++ aW))]
def o8 : List PyData := [smD (.tuple [.str "number", .int (-1)]), smD (txD "of" "@"), smD (txD "of" "a-b"), smD (.tuple [.str "zip", .tuple [.str "number", .int 1]])]
def o9 : List PyData := [smD (.tuple [.str "minus", txD "of" "*"]), rnD [cmdD false], rnD [], smD (txD "of" "12")]
def oddD (s : Str) : List PyData := o1 s ++ o2 s ++ o3 ++ o4 s ++ o5 ++ o6 ++ o7 ++ o8 ++ o9
theorem odd_len (s : Str) : (oddD s).length = 38 := rfl
def spLo (K : Frag) : Sp := fun vs H Q _ => ∃ (S R : Addr) (m : Nat) (bu : Int), vs = [.ref S] ∧ m ≤ 80000 ∧ St bu H S R m ∧
  ∀ (H' : Hp) (v : V) (p : PyData) (s : Str), St bu H' S R (m + 4) → Same (U S R H) (U S R H') → Dp K (U S R H') v p → okT s → s.length ≤ 1 → p ∈ oddD s → Q v H'
section
variable {P : Program} {w : World} {K : Frag} {mg : Str → Option Value} {base : Heap}
abbrev sLo : Stmt := top 76
abbrev nLo : List Str := ["_law_state_here", "_law_sign", "_law_a", "_law_some"]
theorem scLo : FnScope nLo ["_law_state_here"] (defScope sLo) := ⟨rfl, rfl, rfl, by decide +kernel, rfl, by decide +kernel, by decide +kernel⟩
theorem has_Lo {f : Addr} {fd : FuncData}  (F : Fun K "_law_odd" "_law_odd" sLo f fd) (g : mg "_law_odd" = some (.ref f)) (B : Blt mg) (hAn : Has P w K mg base 3 "_law_any" ["_law_state_here", "_law_least", "_law_most"] spAn) {spD : Sp} (drw : DrwT spD) (hDr : Has P w K mg base 1 "_law_draw" ["_law_state_here", "_law_many"] spD) :
    Has P w K mg base 4 "_law_odd" ["_law_state_here"] (spLo K) := by
  obtain ⟨fAn, dAn, gAn, kAn, bAn, GAn⟩ := hAn
  obtain ⟨fDr, dDr, gDr, kDr, bDr, GDr⟩ := hDr
  refine has_of F g (F.binds (ps := ["_law_state_here"]) fun _ _ _ _ _ _ us hl => match us, hl with | [_], _ => rfl) (F.ok scLo (fun vs H Q E h => ?_) (fun cdv A outer s H vs Q E hr h => ?_))
  · obtain ⟨S, R, m, bu, rfl, _⟩ := h
    rfl
  · refine ⟨_, (pss_cons (ps_set (i := 1) scLo.nd rfl (.inl rfl) (pe_call GAn hr rfl gAn kAn bAn .nil pass0 (pa_cons (pv 0) (pa_cons pe_int (pa_cons pe_int pa_nil)))))
        (pss_cons (ps_set (i := 2) scLo.nd rfl (.inl rfl) (pe_lst (pa_cons (pe_tup (pa_cons pe_str (pa_cons pe_str pa_nil))) pa_nil)))
        (pss_cons (ps_set (i := 3) scLo.nd rfl (.inl rfl) (pe_lst (pa_cons (pe_tup (pa_cons pe_str (pa_cons pe_str pa_nil))) (pa_cons (pe_tup (pa_cons pe_str (pa_cons pe_str pa_nil))) (pa_cons (pe_tup (pa_cons pe_str (pa_cons (pe_op op_add_str pe_str (pv 1)) pa_nil))) (pa_cons (pe_tup (pa_cons pe_str (pa_cons (pv 1) pa_nil))) (pa_cons (pe_tup (pa_cons pe_str (pa_cons pe_str pa_nil))) (pa_cons (pe_tup (pa_cons pe_str (pa_cons (pv 1) pa_nil))) pa_nil))))))))
        (pss_cons (ps_set (i := 3) scLo.nd rfl (.inl rfl) (pe_op op_cat (pv 3) (pe_lst (pa_cons (pe_tup (pa_cons pe_str (pa_cons pe_str pa_nil))) (pa_cons (pe_tup (pa_cons pe_str (pa_cons pe_str pa_nil))) (pa_cons (pe_tup (pa_cons pe_str (pa_cons pe_str pa_nil))) (pa_cons (pe_tup (pa_cons pe_str (pa_cons pe_str pa_nil))) (pa_cons (pe_tup (pa_cons pe_str (pa_cons (pv 1) pa_nil))) (pa_cons (pe_tup (pa_cons pe_str (pa_cons pe_str pa_nil))) pa_nil)))))))))
        (pss_cons (ps_set (i := 3) scLo.nd rfl (.inl rfl) (pe_op op_cat (pv 3) (pe_lst (pa_cons (pe_tup (pa_cons pe_str (pa_cons (pv 2) pa_nil))) (pa_cons (pe_tup (pa_cons pe_str (pa_cons (pe_lst pa_nil) pa_nil))) (pa_cons (pe_tup (pa_cons pe_str (pa_cons (pe_lst (pa_cons (pe_tup (pa_cons pe_str (pa_cons pe_str pa_nil))) (pa_cons (pe_tup (pa_cons pe_str (pa_cons pe_str pa_nil))) pa_nil))) pa_nil))) (pa_cons (pe_tup (pa_cons pe_str (pa_cons (pe_lst (pa_cons (pe_tup (pa_cons pe_str (pa_cons pe_str pa_nil))) pa_nil)) pa_nil))) pa_nil)))))))
        (pss_cons (ps_set (i := 3) scLo.nd rfl (.inl rfl) (pe_op op_cat (pv 3) (pe_lst (pa_cons (pe_tup (pa_cons pe_str (pa_cons pe_str (pa_cons (pe_tup pa_nil) pa_nil)))) (pa_cons (pe_tup (pa_cons pe_str (pa_cons pe_str (pa_cons (pe_tup pa_nil) pa_nil)))) (pa_cons (pe_tup (pa_cons pe_str (pa_cons pe_str (pa_cons (pe_tup pa_nil) pa_nil)))) (pa_cons (pe_tup (pa_cons pe_str (pa_cons (pv 1) (pa_cons (pe_tup pa_nil) pa_nil)))) (pa_cons (pe_tup (pa_cons pe_str (pa_cons pe_str (pa_cons (pe_tup (pa_cons pe_str pa_nil)) pa_nil)))) pa_nil))))))))
        (pss_cons (ps_set (i := 3) scLo.nd rfl (.inl rfl) (pe_op op_cat (pv 3) (pe_lst (pa_cons (pe_tup (pa_cons pe_str (pa_cons pe_str (pa_cons (pe_tup (pa_cons pe_str (pa_cons pe_bl (pa_cons (pe_lst pa_nil) pa_nil)))) pa_nil)))) (pa_cons (pe_tup (pa_cons pe_str (pa_cons pe_str (pa_cons (pe_tup (pa_cons pe_str (pa_cons pe_str (pa_cons (pe_lst pa_nil) pa_nil)))) pa_nil)))) (pa_cons (pe_tup (pa_cons pe_str (pa_cons pe_str (pa_cons (pe_tup (pa_cons pe_str (pa_cons pe_bl (pa_cons (pe_lst pa_nil) pa_nil)))) pa_nil)))) pa_nil))))))
        (pss_cons (ps_set (i := 3) scLo.nd rfl (.inl rfl) (pe_op op_cat (pv 3) (pe_lst (pa_cons (pe_tup (pa_cons pe_str (pa_cons pe_str (pa_cons (pe_tup (pa_cons pe_str (pa_cons pe_str (pa_cons (pe_lst pa_nil) pa_nil)))) pa_nil)))) (pa_cons (pe_tup (pa_cons pe_str (pa_cons pe_str (pa_cons (pe_tup (pa_cons pe_str (pa_cons pe_str (pa_cons (pv 2) pa_nil)))) pa_nil)))) (pa_cons (pe_tup (pa_cons pe_str (pa_cons pe_str (pa_cons (pe_tup (pa_cons pe_str (pa_cons pe_bl (pa_cons (pv 2) pa_nil)))) pa_nil)))) pa_nil))))))
        (pss_cons (ps_set (i := 3) scLo.nd rfl (.inl rfl) (pe_op op_cat (pv 3) (pe_lst (pa_cons (pe_tup (pa_cons pe_str (pa_cons pe_str (pa_cons (pe_tup (pa_cons pe_str (pa_cons pe_str (pa_cons (pv 2) pa_nil)))) pa_nil)))) (pa_cons (pe_tup (pa_cons pe_str (pa_cons pe_str (pa_cons (pe_tup (pa_cons pe_str (pa_cons pe_bl (pa_cons (pv 2) pa_nil)))) pa_nil)))) (pa_cons (pe_tup (pa_cons pe_str (pa_cons pe_str (pa_cons (pe_tup (pa_cons pe_str (pa_cons pe_bl (pa_cons (pe_op op_cat (pv 2) (pv 2)) pa_nil)))) pa_nil)))) pa_nil))))))
        (pss_cons (ps_set (i := 3) scLo.nd rfl (.inl rfl) (pe_op op_cat (pv 3) (pe_lst (pa_cons (pe_tup (pa_cons pe_str (pa_cons (pe_tup (pa_cons pe_str (pa_cons (pe_un un_neg pe_int) pa_nil))) pa_nil))) (pa_cons (pe_tup (pa_cons pe_str (pa_cons (pe_tup (pa_cons pe_str (pa_cons pe_str pa_nil))) pa_nil))) (pa_cons (pe_tup (pa_cons pe_str (pa_cons (pe_tup (pa_cons pe_str (pa_cons pe_str pa_nil))) pa_nil))) (pa_cons (pe_tup (pa_cons pe_str (pa_cons (pe_tup (pa_cons pe_str (pa_cons (pe_tup (pa_cons pe_str (pa_cons pe_int pa_nil))) pa_nil))) pa_nil))) pa_nil)))))))
        (pss_cons (ps_set (i := 3) scLo.nd rfl (.inl rfl) (pe_op op_cat (pv 3) (pe_lst (pa_cons (pe_tup (pa_cons pe_str (pa_cons (pe_tup (pa_cons pe_str (pa_cons (pe_tup (pa_cons pe_str (pa_cons pe_str pa_nil))) pa_nil))) pa_nil))) (pa_cons (pe_tup (pa_cons pe_str (pa_cons (pe_lst (pa_cons (pe_tup (pa_cons pe_str (pa_cons (pe_lst pa_nil) (pa_cons (pe_lst pa_nil) (pa_cons (pe_lst pa_nil) pa_nil))))) pa_nil)) pa_nil))) (pa_cons (pe_tup (pa_cons pe_str (pa_cons (pe_lst pa_nil) pa_nil))) (pa_cons (pe_tup (pa_cons pe_str (pa_cons (pe_tup (pa_cons pe_str (pa_cons pe_str pa_nil))) pa_nil))) pa_nil)))))))
        (pss_one (ps_ret (pe_ix ix_list (pv 3) (pe_call GDr (hr.mono (by decide)) rfl gDr kDr bDr .nil pass0 (pa_cons (pv 0) (pa_cons (pe_callB call_len_seq (by rfl) B.len PySem.boot_len (pa_cons (pv 3) pa_nil)) pa_nil))) (fun _ _ => rfl))))))))))))))), ?_⟩
    obtain ⟨S, R, m, bu, rfl, hm, T, k⟩ := h
    refine ⟨_, rfl, S, R, m, bu, 1, 1, rfl, by decide, by decide, by omega, T, fun H1 s T1 s1 ok h1 h2 => ?_⟩
    have lsz : ("a" : Str).length + s.length ≤ sizeLine := by
      have : ("a" : Str).length = 1 := by decide +kernel
      exact small_line (by omega)
    refine asg_go ?_
    dsimp only
    refine seq_mkl (K := K) (S := S) (R := R) (ds := aW) ?_ fun H2 a xs s2 ea da => ?_
    · exact mkl_lst T1 (mka_cons (mkd_tup T1 (mka_cons mkd_str (mka_cons mkd_str mka_nil)) rfl) mka_nil) rfl
    have T2 := T1.same s2
    have w2 := s1.trans (U_same s2)
    refine seq_mkl (K := K) (S := S) (R := R) (ds := o1 s) ?_ fun H3 b3 x3 s3 e3 d3 => ?_
    · exact mkl_lst T2 (mka_cons (mkd_tup T2 (mka_cons mkd_str (mka_cons mkd_str mka_nil)) rfl) (mka_cons (mkd_tup T2 (mka_cons mkd_str (mka_cons mkd_str mka_nil)) rfl) (mka_cons (mkd_tup T2 (mka_cons mkd_str (mka_cons (mkd_adds rfl lsz) mka_nil)) rfl) (mka_cons (mkd_tup T2 (mka_cons mkd_str (mka_cons (mkd_var rfl (.str s)) mka_nil)) rfl) (mka_cons (mkd_tup T2 (mka_cons mkd_str (mka_cons mkd_str mka_nil)) rfl) (mka_cons (mkd_tup T2 (mka_cons mkd_str (mka_cons (mkd_var rfl (.str s)) mka_nil)) rfl) mka_nil)))))) rfl
    have T3 := T2.same s3
    have ea := U_same s3 _ _ ea
    have da := dpAll_same (U_same s3) da
    have w3 := w2.trans (U_same s3)
    refine seq_mkl (K := K) (S := S) (R := R) (ds := o1 s ++ o2 s) ?_ fun H4 b4 x4 s4 e4 d4 => ?_
    · exact mkl_cat T3 (mkl_var rfl e3 d3) (mkl_lst T3 (mka_cons (mkd_tup T3 (mka_cons mkd_str (mka_cons mkd_str mka_nil)) rfl) (mka_cons (mkd_tup T3 (mka_cons mkd_str (mka_cons mkd_str mka_nil)) rfl) (mka_cons (mkd_tup T3 (mka_cons mkd_str (mka_cons mkd_str mka_nil)) rfl) (mka_cons (mkd_tup T3 (mka_cons mkd_str (mka_cons mkd_str mka_nil)) rfl) (mka_cons (mkd_tup T3 (mka_cons mkd_str (mka_cons (mkd_var rfl (.str s)) mka_nil)) rfl) (mka_cons (mkd_tup T3 (mka_cons mkd_str (mka_cons mkd_str mka_nil)) rfl) mka_nil)))))) rfl) rfl
    have T4 := T3.same s4
    have ea := U_same s4 _ _ ea
    have da := dpAll_same (U_same s4) da
    have w4 := w3.trans (U_same s4)
    refine seq_mkl (K := K) (S := S) (R := R) (ds := o1 s ++ o2 s ++ o3) ?_ fun H5 b5 x5 s5 e5 d5 => ?_
    · exact mkl_cat T4 (mkl_var rfl e4 d4) (mkl_lst T4 (mka_cons (mkd_tup T4 (mka_cons mkd_str (mka_cons (mkd_l (mkl_var rfl ea da)) mka_nil)) rfl) (mka_cons (mkd_tup T4 (mka_cons mkd_str (mka_cons (mkd_l (mkl_lst T4 mka_nil rfl)) mka_nil)) rfl) (mka_cons (mkd_tup T4 (mka_cons mkd_str (mka_cons (mkd_l (mkl_lst T4 (mka_cons (mkd_tup T4 (mka_cons mkd_str (mka_cons mkd_str mka_nil)) rfl) (mka_cons (mkd_tup T4 (mka_cons mkd_str (mka_cons mkd_str mka_nil)) rfl) mka_nil)) rfl)) mka_nil)) rfl) (mka_cons (mkd_tup T4 (mka_cons mkd_str (mka_cons (mkd_l (mkl_lst T4 (mka_cons (mkd_tup T4 (mka_cons mkd_str (mka_cons mkd_str mka_nil)) rfl) mka_nil) rfl)) mka_nil)) rfl) mka_nil)))) rfl) rfl
    have T5 := T4.same s5
    have ea := U_same s5 _ _ ea
    have da := dpAll_same (U_same s5) da
    have w5 := w4.trans (U_same s5)
    refine seq_mkl (K := K) (S := S) (R := R) (ds := o1 s ++ o2 s ++ o3 ++ o4 s) ?_ fun H6 b6 x6 s6 e6 d6 => ?_
    · exact mkl_cat T5 (mkl_var rfl e5 d5) (mkl_lst T5 (mka_cons (mkd_tup T5 (mka_cons mkd_str (mka_cons mkd_str (mka_cons (mkd_tup T5 mka_nil rfl) mka_nil))) rfl) (mka_cons (mkd_tup T5 (mka_cons mkd_str (mka_cons mkd_str (mka_cons (mkd_tup T5 mka_nil rfl) mka_nil))) rfl) (mka_cons (mkd_tup T5 (mka_cons mkd_str (mka_cons mkd_str (mka_cons (mkd_tup T5 mka_nil rfl) mka_nil))) rfl) (mka_cons (mkd_tup T5 (mka_cons mkd_str (mka_cons (mkd_var rfl (.str s)) (mka_cons (mkd_tup T5 mka_nil rfl) mka_nil))) rfl) (mka_cons (mkd_tup T5 (mka_cons mkd_str (mka_cons mkd_str (mka_cons (mkd_tup T5 (mka_cons mkd_str mka_nil) rfl) mka_nil))) rfl) mka_nil))))) rfl) rfl
    have T6 := T5.same s6
    have ea := U_same s6 _ _ ea
    have da := dpAll_same (U_same s6) da
    have w6 := w5.trans (U_same s6)
    refine seq_mkl (K := K) (S := S) (R := R) (ds := o1 s ++ o2 s ++ o3 ++ o4 s ++ o5) ?_ fun H7 b7 x7 s7 e7 d7 => ?_
    · exact mkl_cat T6 (mkl_var rfl e6 d6) (mkl_lst T6 (mka_cons (mkd_tup T6 (mka_cons mkd_str (mka_cons mkd_str (mka_cons (mkd_tup T6 (mka_cons mkd_str (mka_cons mkd_bl (mka_cons (mkd_l (mkl_lst T6 mka_nil rfl)) mka_nil))) rfl) mka_nil))) rfl) (mka_cons (mkd_tup T6 (mka_cons mkd_str (mka_cons mkd_str (mka_cons (mkd_tup T6 (mka_cons mkd_str (mka_cons mkd_str (mka_cons (mkd_l (mkl_lst T6 mka_nil rfl)) mka_nil))) rfl) mka_nil))) rfl) (mka_cons (mkd_tup T6 (mka_cons mkd_str (mka_cons mkd_str (mka_cons (mkd_tup T6 (mka_cons mkd_str (mka_cons mkd_bl (mka_cons (mkd_l (mkl_lst T6 mka_nil rfl)) mka_nil))) rfl) mka_nil))) rfl) mka_nil))) rfl) rfl
    have T7 := T6.same s7
    have ea := U_same s7 _ _ ea
    have da := dpAll_same (U_same s7) da
    have w7 := w6.trans (U_same s7)
    refine seq_mkl (K := K) (S := S) (R := R) (ds := o1 s ++ o2 s ++ o3 ++ o4 s ++ o5 ++ o6) ?_ fun H8 b8 x8 s8 e8 d8 => ?_
    · exact mkl_cat T7 (mkl_var rfl e7 d7) (mkl_lst T7 (mka_cons (mkd_tup T7 (mka_cons mkd_str (mka_cons mkd_str (mka_cons (mkd_tup T7 (mka_cons mkd_str (mka_cons mkd_str (mka_cons (mkd_l (mkl_lst T7 mka_nil rfl)) mka_nil))) rfl) mka_nil))) rfl) (mka_cons (mkd_tup T7 (mka_cons mkd_str (mka_cons mkd_str (mka_cons (mkd_tup T7 (mka_cons mkd_str (mka_cons mkd_str (mka_cons (mkd_l (mkl_var rfl ea da)) mka_nil))) rfl) mka_nil))) rfl) (mka_cons (mkd_tup T7 (mka_cons mkd_str (mka_cons mkd_str (mka_cons (mkd_tup T7 (mka_cons mkd_str (mka_cons mkd_bl (mka_cons (mkd_l (mkl_var rfl ea da)) mka_nil))) rfl) mka_nil))) rfl) mka_nil))) rfl) rfl
    have T8 := T7.same s8
    have ea := U_same s8 _ _ ea
    have da := dpAll_same (U_same s8) da
    have w8 := w7.trans (U_same s8)
    refine seq_mkl (K := K) (S := S) (R := R) (ds := o1 s ++ o2 s ++ o3 ++ o4 s ++ o5 ++ o6 ++ o7) ?_ fun H9 b9 x9 s9 e9 d9 => ?_
    · exact mkl_cat T8 (mkl_var rfl e8 d8) (mkl_lst T8 (mka_cons (mkd_tup T8 (mka_cons mkd_str (mka_cons mkd_str (mka_cons (mkd_tup T8 (mka_cons mkd_str (mka_cons mkd_str (mka_cons (mkd_l (mkl_var rfl ea da)) mka_nil))) rfl) mka_nil))) rfl) (mka_cons (mkd_tup T8 (mka_cons mkd_str (mka_cons mkd_str (mka_cons (mkd_tup T8 (mka_cons mkd_str (mka_cons mkd_bl (mka_cons (mkd_l (mkl_var rfl ea da)) mka_nil))) rfl) mka_nil))) rfl) (mka_cons (mkd_tup T8 (mka_cons mkd_str (mka_cons mkd_str (mka_cons (mkd_tup T8 (mka_cons mkd_str (mka_cons mkd_bl (mka_cons (mkd_l (mkl_cat T8 (mkl_var rfl ea da) (mkl_var rfl ea da) rfl)) mka_nil))) rfl) mka_nil))) rfl) mka_nil))) rfl) rfl
    have T9 := T8.same s9
    have ea := U_same s9 _ _ ea
    have da := dpAll_same (U_same s9) da
    have w9 := w8.trans (U_same s9)
    refine seq_mkl (K := K) (S := S) (R := R) (ds := o1 s ++ o2 s ++ o3 ++ o4 s ++ o5 ++ o6 ++ o7 ++ o8) ?_ fun H10 b10 x10 s10 e10 d10 => ?_
    · exact mkl_cat T9 (mkl_var rfl e9 d9) (mkl_lst T9 (mka_cons (mkd_tup T9 (mka_cons mkd_str (mka_cons (mkd_tup T9 (mka_cons mkd_str (mka_cons mkd_neg mka_nil)) rfl) mka_nil)) rfl) (mka_cons (mkd_tup T9 (mka_cons mkd_str (mka_cons (mkd_tup T9 (mka_cons mkd_str (mka_cons mkd_str mka_nil)) rfl) mka_nil)) rfl) (mka_cons (mkd_tup T9 (mka_cons mkd_str (mka_cons (mkd_tup T9 (mka_cons mkd_str (mka_cons mkd_str mka_nil)) rfl) mka_nil)) rfl) (mka_cons (mkd_tup T9 (mka_cons mkd_str (mka_cons (mkd_tup T9 (mka_cons mkd_str (mka_cons (mkd_tup T9 (mka_cons mkd_str (mka_cons mkd_int mka_nil)) rfl) mka_nil)) rfl) mka_nil)) rfl) mka_nil)))) rfl) rfl
    have T10 := T9.same s10
    have ea := U_same s10 _ _ ea
    have da := dpAll_same (U_same s10) da
    have w10 := w9.trans (U_same s10)
    refine seq_mkl (K := K) (S := S) (R := R) (ds := o1 s ++ o2 s ++ o3 ++ o4 s ++ o5 ++ o6 ++ o7 ++ o8 ++ o9) ?_ fun H11 b11 x11 s11 e11 d11 => ?_
    · exact mkl_cat T10 (mkl_var rfl e10 d10) (mkl_lst T10 (mka_cons (mkd_tup T10 (mka_cons mkd_str (mka_cons (mkd_tup T10 (mka_cons mkd_str (mka_cons (mkd_tup T10 (mka_cons mkd_str (mka_cons mkd_str mka_nil)) rfl) mka_nil)) rfl) mka_nil)) rfl) (mka_cons (mkd_tup T10 (mka_cons mkd_str (mka_cons (mkd_l (mkl_lst T10 (mka_cons (mkd_tup T10 (mka_cons mkd_str (mka_cons (mkd_l (mkl_lst T10 mka_nil rfl)) (mka_cons (mkd_l (mkl_lst T10 mka_nil rfl)) (mka_cons (mkd_l (mkl_lst T10 mka_nil rfl)) mka_nil)))) rfl) mka_nil) rfl)) mka_nil)) rfl) (mka_cons (mkd_tup T10 (mka_cons mkd_str (mka_cons (mkd_l (mkl_lst T10 mka_nil rfl)) mka_nil)) rfl) (mka_cons (mkd_tup T10 (mka_cons mkd_str (mka_cons (mkd_tup T10 (mka_cons mkd_str (mka_cons mkd_str mka_nil)) rfl) mka_nil)) rfl) mka_nil)))) rfl) rfl
    have T11 := T10.same s11
    have ea := U_same s11 _ _ ea
    have da := dpAll_same (U_same s11) da
    have w11 := w10.trans (U_same s11)
    have l11 : x11.length = 38 := dpLen d11
    refine ⟨_, rfl, _, rfl, _, rfl, b11, x11, rfl, .inl (SqL.of (U_back _ _ e11)), ?_⟩
    rw [l11]
    refine drw _ _ _ _ _ ((38 : Nat) : Int) _ _ T11 (by omega) (by decide) (by decide) fun H12 r hr T12 s12 _ => ?_
    have e12 := s12 _ _ e11
    have r35 : r < 38 := by omega
    obtain ⟨p, hp⟩ : ∃ p, (oddD s)[r]? = some p := ⟨_, List.getElem?_eq_getElem (by rw [odd_len]; exact r35)⟩
    obtain ⟨v, hv, dv⟩ := dpAt (ds := oddD s) (dpAll_same s12 d11) hp
    exact ⟨b11, _, _, v, rfl, rfl, SqL.of (U_back _ _ e12), atI_nat hv, k H12 v p s (T12.le (by omega)) (w11.trans s12) dv ok (by omega) (List.mem_of_getElem? hp)⟩
end
end Qb
end PySem
namespace PySem
namespace Qb
open PySem.W PySem.Calls PyProof.Rows L2
/-! # what odd pieces are -/
abbrev PcO (n : Nat) (i : Bool) (p : PyData) : Prop := ∃ b r, PcR CRo (WsR CRo (n + 1) false) (WsR CRo (n + 1) true) i p b r
theorem ws_any {n : Nat} {i : Bool} : ∀ (ws : List PyData), (∀ p ∈ ws, ∃ b r, PcR CRo (WsR CRo n false) (WsR CRo n true) i p b r) → ∃ ps : List (Bool × Bool), All2 (fun p q => PcR CRo (WsR CRo n false) (WsR CRo n true) i p q.1 q.2) ws ps
  | [], _ => ⟨[], .nil⟩
  | p :: ws, h => by
    obtain ⟨b, r, hp⟩ := h p (.head _)
    obtain ⟨ps, al⟩ := ws_any ws fun q m => h q (.tail _ m)
    exact ⟨(b, r) :: ps, .cons hp al⟩
theorem ws_ex {n : Nat} {i : Bool} {ws : List PyData} (hl : ws.length ≤ n + 3) (h : ∀ p ∈ ws, ∃ b r, PcR CRo (WsR CRo n false) (WsR CRo n true) i p b r) : ∃ b r, WsR CRo (n + 1) i ws b r := by
  obtain ⟨ps, al⟩ := ws_any ws h
  exact ⟨_, _, hl, ps, al, rfl, rfl⟩
theorem pc_tx {n : Nat} {i : Bool} {k x : Str} (hk : TxK k) (hx : Tx x) : ∃ b r, PcR CRo (WsR CRo n false) (WsR CRo n true) i (txD k x) b r := ⟨_, _, .inl ⟨k, x, rfl, hk, hx, rfl, rfl⟩⟩
theorem txk {k : Str} (h : (k ≠ "wide" ∧ k ≠ "name" ∧ k ≠ "sum" ∧ k ≠ "run") ∧ PyData.strOk k = true ∧ k.length ≤ 20) : TxK k := ⟨h.1.1, h.1.2.1, h.1.2.2.1, h.1.2.2.2, h.2.1, h.2.2⟩
theorem tx_of {x : Str} (h : PyData.strOk x = true ∧ x.length ≤ 20) : Tx x := ⟨h.2, h.1⟩
theorem ws_aW {n : Nat} {i : Bool} : ∃ b r, WsR CRo (n + 1) i aW b r := ws_ex (by show 1 ≤ n + 3; omega) fun p m => by
  rw [List.mem_singleton.mp m]
  exact pc_tx (k := "bare") (x := "a") txK_bare tx_a
theorem ws_nil {n : Nat} {i : Bool} : ∃ b r, WsR CRo (n + 1) i [] b r := ws_ex (Nat.zero_le _) fun p m => by cases m
theorem ws_aa {n : Nat} {i : Bool} : ∃ b r, WsR CRo (n + 1) i (aW ++ aW) b r := ws_ex (by show 2 ≤ n + 3; omega) fun p m => by
  have e : p = txD "bare" "a" := by
    rcases List.mem_append.mp m with m | m <;> exact List.mem_singleton.mp m
  rw [e]
  exact pc_tx txK_bare tx_a
theorem pc_wd {n : Nat} {i : Bool} {ws : List PyData} (h : ∃ b r, WsR CRo (n + 1) true ws b r) : PcO n i (wdD ws) := by
  obtain ⟨b, r, h⟩ := h
  exact ⟨_, _, .inr (.inl ⟨ws, b, r, rfl, h, rfl, rfl⟩)⟩
theorem pc_nm {n : Nat} {i : Bool} {x : Str} {d : PyData} (hx : Tx x) (h : ∃ b r, DdR (WsR CRo (n + 1) false) x d b r) : PcO n i (nmD x d) := by
  obtain ⟨b, r, h⟩ := h
  exact ⟨_, r, .inr (.inr (.inl ⟨x, d, b, rfl, hx, h, rfl⟩))⟩
theorem dd_0 {n : Nat} {x : Str} : ∃ b r, DdR (WsR CRo (n + 1) false) x dO b r := ⟨_, _, .inl ⟨rfl, rfl, rfl⟩⟩
theorem dd_s {n : Nat} {x : Str} : ∃ b r, DdR (WsR CRo (n + 1) false) x sizD b r := ⟨_, _, .inr (.inl ⟨rfl, rfl, rfl⟩)⟩
theorem dd_d {n : Nat} {x k : Str} {c : Bool} {ws : List PyData} (hk : k ∈ dd4 ∨ k = "zip") (h : ∃ b r, WsR CRo (n + 1) false ws b r) : ∃ b r, DdR (WsR CRo (n + 1) false) x (ddD k c ws) b r := by
  obtain ⟨b, r, h⟩ := h
  exact ⟨_, _, .inr (.inr (.inl ⟨k, c, ws, b, r, rfl, hk, h, rfl, rfl⟩))⟩
theorem dd_c {n : Nat} {x m : Str} {ws : List PyData} (hm : Tx m) (h : ∃ b r, WsR CRo (n + 1) false ws b r) : ∃ b r, DdR (WsR CRo (n + 1) false) x (ctD m ws) b r := by
  obtain ⟨b, r, h⟩ := h
  exact ⟨_, _, .inr (.inr (.inr ⟨m, ws, b, r, rfl, hm, h, rfl, rfl⟩))⟩
theorem pc_sm {n : Nat} {i : Bool} {d : PyData} (t : Tm) (e : t.d = d) (f : t.fine) (g : t.lawf) (h : t.ht ≤ 12) (r : Rp 14 1200 t.d) : PcO n i (smD d) := by
  subst e
  exact ⟨_, _, .inr (.inr (.inr (.inl ⟨t, rfl, ⟨f, g⟩, h, r, rfl, rfl⟩)))⟩
theorem pc_rn {n : Nat} {i : Bool} {cs : List PyData} {bs : List Bool} (hl : cs.length ≤ 1) (h : All2 CRo cs bs) : PcO n i (rnD cs) :=
  ⟨_, _, .inr (.inr (.inr (.inr ⟨cs, bs, rfl, hl, h, fun c m => by
    obtain ⟨b, _, e⟩ := h.mem m
    rw [show c = cmdD b from e]
    exact sh_mono (sh_cmd b) (by decide), rfl, rfl⟩)))⟩
theorem rp_lit {x : Str} (h : PyData.strOk x = true ∧ x.length ≤ 20) {n : Nat} : Rp n 202 (.str x) := rp_text h
theorem odd_pc {s : Str} (ok : okT s) (hl : s.length ≤ 1) {n : Nat} {i : Bool} : ∀ p ∈ oddD s, PcO n i p := by
  have ts : Tx s := ok.tx (by omega)
  have tas : Tx ("a" ++ s) := by
    have e : ("a" : Str).length = 1 := by decide +kernel
    refine okT.tx (fun c m => ?_) ?_
    · rw [cs_app] at m
      rcases List.mem_append.mp m with m | m
      · exact (by decide +kernel : ∀ c ∈ cs ("a" : Str), c < 128) c m
      · exact ok c m
    · rw [len_cs, cs_app, List.length_append, ← len_cs, ← len_cs]
      omega
  intro p m
  unfold oddD at m
  simp only [List.mem_append, o1, o2, o3, o4, o5, o6, o7, o8, o9, List.mem_cons, List.not_mem_nil, or_false] at m
  rcases m with (((((((((rfl | rfl | rfl | rfl | rfl | rfl) | (rfl | rfl | rfl | rfl | rfl | rfl)) | (rfl | rfl | rfl | rfl)) | (rfl | rfl | rfl | rfl | rfl)) | (rfl | rfl | rfl)) | (rfl | rfl | rfl)) | (rfl | rfl | rfl)) | (rfl | rfl | rfl | rfl)) | (rfl | rfl | rfl | rfl))
  · exact pc_tx (txk (by decide +kernel)) tx_a
  · exact pc_tx txK_bare (tx_of (by decide +kernel))
  · exact pc_tx txK_bare tas
  · exact pc_tx txK_held ts
  · exact pc_tx txK_held (tx_of (by decide +kernel))
  · exact pc_tx txK_mark ts
  · exact pc_tx txK_mark (tx_of (by decide +kernel))
  · exact pc_tx txK_mark (tx_of (by decide +kernel))
  · exact pc_tx txK_mark (tx_of (by decide +kernel))
  · exact pc_tx txK_plain (tx_of (by decide +kernel))
  · exact pc_tx txK_plain ts
  · exact pc_tx txK_bare tx_a
  · exact pc_wd ws_aW
  · exact pc_wd ws_nil
  · refine pc_wd (ws_ex (by show 2 ≤ n + 3; omega) (all_two ?_ ?_))
    · exact pc_tx txK_plain tx_a
    · exact pc_tx txK_plain (tx_of (by decide +kernel))
  · refine pc_wd (ws_ex (by show 1 ≤ n + 3; omega) fun p m => ?_)
    rw [List.mem_singleton.mp m]
    exact pc_tx txK_plain (tx_of (by decide +kernel))
  · exact pc_nm (tx_of (by decide +kernel)) dd_0
  · exact pc_nm (tx_of (by decide +kernel)) dd_0
  · exact pc_nm (tx_of (by decide +kernel)) dd_0
  · exact pc_nm ts dd_0
  · exact pc_nm (tx_of (by decide +kernel)) dd_s
  · exact pc_nm (tx_of (by decide +kernel)) (dd_d (.inl (by decide +kernel)) ws_nil)
  · exact pc_nm (tx_of (by decide +kernel)) (dd_c (tx_of (by decide +kernel)) ws_nil)
  · exact pc_nm (tx_of (by decide +kernel)) (dd_d (.inl (by decide +kernel)) ws_nil)
  · exact pc_nm (tx_of (by decide +kernel)) (dd_c (tx_of (by decide +kernel)) ws_nil)
  · exact pc_nm (tx_of (by decide +kernel)) (dd_c (tx_of (by decide +kernel)) ws_aW)
  · exact pc_nm (tx_of (by decide +kernel)) (dd_d (.inl (by decide +kernel)) ws_aW)
  · exact pc_nm (tx_of (by decide +kernel)) (dd_c (tx_of (by decide +kernel)) ws_aW)
  · exact pc_nm (tx_of (by decide +kernel)) (dd_d (.inr rfl) ws_aW)
  · exact pc_nm (tx_of (by decide +kernel)) (dd_d (.inl (by decide +kernel)) ws_aa)
  · refine pc_sm (.num (-1)) rfl trivial trivial (by decide) ((rp_two (n := 0) (rp_lit (by decide +kernel)) (⟨sh_int (-1), by rw [PyData.showable.eq_4]; decide +kernel, rfl, by rw [PyData.shown.eq_3]; decide +kernel⟩ : Rp 0 20 (.int (-1)))).mono (by decide) (by decide))
  · exact pc_sm (.of "@") rfl (by show ("@" : Str).length ≤ big; decide +kernel) trivial (by decide) ((rp_two (n := 0) (rp_lit (by decide +kernel)) (rp_lit (by decide +kernel))).mono (by decide) (by decide))
  · exact pc_sm (.of "a-b") rfl (by show ("a-b" : Str).length ≤ big; decide +kernel) trivial (by decide) ((rp_two (n := 0) (rp_lit (by decide +kernel)) (rp_lit (by decide +kernel))).mono (by decide) (by decide))
  · exact pc_sm (.one "zip" (.num 1)) rfl ⟨by decide +kernel, by decide +kernel, trivial⟩ ⟨.inr (.inr rfl), trivial⟩ (by decide) ((rp_two (n := 1) (rp_lit (by decide +kernel)) (rp_two (n := 0) (rp_lit (by decide +kernel)) (rp_int (by decide) (by decide)))).mono (by decide) (by decide))
  · exact pc_sm (.one "minus" (.of "*")) rfl ⟨by decide +kernel, by decide +kernel, (show ("*" : Str).length ≤ big by decide +kernel)⟩ ⟨.inl rfl, trivial⟩ (by decide) ((rp_two (n := 1) (rp_lit (by decide +kernel)) (rp_two (n := 0) (rp_lit (by decide +kernel)) (rp_lit (by decide +kernel)))).mono (by decide) (by decide))
  · exact pc_rn (bs := [false]) (by decide) (.cons rfl .nil)
  · exact pc_rn (bs := []) (by decide) .nil
  · exact pc_sm (.of "12") rfl (by show ("12" : Str).length ≤ big; decide +kernel) trivial (by decide) ((rp_two (n := 0) (rp_lit (by decide +kernel)) (rp_lit (by decide +kernel))).mono (by decide) (by decide))
/-- what is right n deep is also of depth n + 1 -/
theorem dd_mono {W W' : WR} (h : ∀ ws b r, W ws b r → W' ws b r) {x : Str} {d : PyData} {b r : Bool} (hd : DdR W x d b r) : DdR W' x d b r := by
  rcases hd with h1 | h1 | ⟨k, c, ws, bw, rw, e, hk, hw, e1, e2⟩ | ⟨m, ws, bw, rw, e, hm, hw, e1, e2⟩
  · exact .inl h1
  · exact .inr (.inl h1)
  · exact .inr (.inr (.inl ⟨k, c, ws, bw, rw, e, hk, h _ _ _ hw, e1, e2⟩))
  · exact .inr (.inr (.inr ⟨m, ws, bw, rw, e, hm, h _ _ _ hw, e1, e2⟩))
theorem pc_mono {W1 W2 V1 V2 : WR} (h1 : ∀ ws b r, W1 ws b r → V1 ws b r) (h2 : ∀ ws b r, W2 ws b r → V2 ws b r) {i : Bool} {p : PyData} {b r : Bool} (hp : PcR CRo W1 W2 i p b r) : PcR CRo V1 V2 i p b r := by
  rcases hp with h | ⟨ws, bw, rw, e, hw, e1, e2⟩ | ⟨x, d, bd, e, hx, hd, e1⟩ | h | h
  · exact .inl h
  · exact .inr (.inl ⟨ws, bw, rw, e, h2 _ _ _ hw, e1, e2⟩)
  · exact .inr (.inr (.inl ⟨x, d, bd, e, hx, dd_mono h1 hd, e1⟩))
  · exact .inr (.inr (.inr (.inl h)))
  · exact .inr (.inr (.inr (.inr h)))
theorem ws_mono : ∀ (n : Nat) {i : Bool} {ws : List PyData} {b r : Bool}, WsR CRo n i ws b r → WsR CRo (n + 1) i ws b r
  | 0, _, _, _, _, h => h.elim
  | n + 1, i, ws, b, r, ⟨hl, ps, al, e1, e2⟩ => ⟨by omega, ps, al.imp fun p q h => pc_mono (fun _ _ _ h => ws_mono n h) (fun _ _ _ h => ws_mono n h) h, e1, e2⟩
end Qb
end PySem
namespace PySem
namespace Qb
open PySem.W PySem.Calls PyProof.Rows L2
/-! # words that are bent -/
def tWeak (t : TS) : TS := fun D σ H => ∃ G : L2.St → Hp → Prop, (∀ σ' H', G σ' H' → D.nx σ' H') ∧ t { D with nx := G } σ H
theorem ps_weak {X : Cx} {st : Stmt} {t : TS} (h : PS X st t) : PS X st (tWeak t) := by
  refine ⟨fun pins s σ H D I ⟨G, hG, q⟩ => wpAny_mono (h.run pins s σ H { D with nx := G } I q) (fun fl s1 hs => ?_) fun _ _ y => y⟩
  cases fl with
  | next =>
    obtain ⟨σ1, H1, J, z⟩ := hs
    exact ⟨σ1, H1, J, hG _ _ z⟩
  | brk => exact hs
  | cont => exact hs
  | ret u => exact hs
theorem cutV_to (xs : List V) (i : Nat) : cutV xs none (some ((i : Nat) : Int)) = xs.take i := by
  unfold cutV
  rw [HT.sIx_nat, show HT.sIx xs.length 0 none = 0 by rfl, List.drop_zero, Nat.sub_zero]
  by_cases h : i ≤ xs.length
  · rw [Nat.min_eq_left h]
  · rw [Nat.min_eq_right (by omega), List.take_of_length_le (Nat.le_refl _), List.take_of_length_le (by omega)]
theorem cutV_from (xs : List V) (i : Nat) : cutV xs (some ((i : Nat) : Int)) none = xs.drop i := by
  unfold cutV
  rw [HT.sIx_nat, show HT.sIx xs.length xs.length none = xs.length by rfl]
  by_cases h : i ≤ xs.length
  · rw [Nat.min_eq_left h, List.take_of_length_le (by rw [List.length_drop]; exact Nat.le_refl _)]
  · rw [Nat.min_eq_right (by omega), List.drop_eq_nil_of_le (Nat.le_refl _), List.drop_eq_nil_of_le (by omega), List.take_nil]
theorem dpTk {K : Frag} {H : Hp} : ∀ {vs : List V} {ds : List PyData} (i : Nat), DpAll K H vs ds → DpAll K H (vs.take i) (ds.take i)
  | _, _, 0, _ => .nil
  | _, _, _ + 1, .nil => .nil
  | _, _, i + 1, .cons h t => .cons h (dpTk i t)
theorem dpDr {K : Frag} {H : Hp} : ∀ {vs : List V} {ds : List PyData} (i : Nat), DpAll K H vs ds → DpAll K H (vs.drop i) (ds.drop i)
  | _, _, 0, h => h
  | _, _, _ + 1, .nil => .nil
  | _, _, i + 1, .cons h t => dpDr i t
theorem pu_head {K : Frag} {σ : L2.St} {H : Hp} {a : Nat} {b : Addr} {y c : Str} {z : List V} (hq : SqT K H b (.str y :: z)) (h : σ[a]? = some (some (.ref b))) : Pu (tTest (tOp rEq (tOp (rIxT K) (tVar a) (tC (.int 0))) (tC (.str c)))) σ H (decide (V.str y = V.str c)) := fun Q q =>
  ⟨_, h, b, _, 0, _, rfl, rfl, hq, atI_nat (j := 0) rfl, rfl, _, rfl, q⟩
theorem pu_and0 {t u : TT} {σ : L2.St} {H : Hp} {b : Bool} (h1 : Pu t σ H b) (e : b = false) : Pu (tAnd t u) σ H false := fun Q q => h1 _ (by
  rw [e]
  exact q)
abbrev PcN (n : Nat) (i : Bool) (p : PyData) : Prop := ∃ b r, PcR CRo (WsR CRo n false) (WsR CRo n true) i p b r
def spBe (K : Frag) : Nat → Sp
  | 0 => fun _ _ _ _ => False
  | n + 1 => fun vs H Q _ => ∃ (S R : Addr) (m : Nat) (bu : Int) (v : V) (ws : List PyData) (i b r : Bool), vs = [.ref S, v, .bl i] ∧ m + 20 * (n + 1) ≤ 80000 ∧ St bu H S R m ∧ Dp K (U S R H) v (.list ws) ∧ WsR CRo (n + 1) i ws b r ∧
    ∀ (H' : Hp) (v' : V) (ws' : List PyData) (b' r' : Bool), St bu H' S R (m + 20 * (n + 1)) → Same (U S R H) (U S R H') → Dp K (U S R H') v' (.list ws') → WsR CRo (n + 2) i ws' b' r' → 1 ≤ ws'.length → Q v' H'
section
variable {P : Program} {w : World} {K : Frag} {mg : Str → Option Value} {base : Heap}
abbrev sLbe : Stmt := top 77
abbrev nLbe : List Str := ["_law_state_here", "_law_pieces_here", "_law_inside", "_law_at", "_law_piece_here", "_law_part", "_law_pick"]
theorem scLbe : FnScope nLbe ["_law_state_here", "_law_pieces_here", "_law_inside"] (defScope sLbe) := ⟨rfl, rfl, rfl, by decide +kernel, rfl, by decide +kernel, by decide +kernel⟩
theorem has_Lbe {n L : Nat} (l5 : 5 ≤ L) (l14 : n ≤ 10) {f : Addr} {fd : FuncData}  (F : Fun K "_law_bent" "_law_bent" sLbe f fd) (g : mg "_law_bent" = some (.ref f)) (B : Blt mg) (hLo : Has P w K mg base 4 "_law_odd" ["_law_state_here"] (spLo K)) {spD : Sp} (drw : DrwT spD) (hDr : Has P w K mg base 1 "_law_draw" ["_law_state_here", "_law_many"] spD) (hLbe : Has P w K mg base L "_law_bent" ["_law_state_here", "_law_pieces_here", "_law_inside"] (spBe K n)) :
    Has P w K mg base (L + 1) "_law_bent" ["_law_state_here", "_law_pieces_here", "_law_inside"] (spBe K (n + 1)) := by
  obtain ⟨fLo, dLo, gLo, kLo, bLo, GLo⟩ := hLo
  obtain ⟨fDr, dDr, gDr, kDr, bDr, GDr⟩ := hDr
  obtain ⟨fLbe, dLbe, gLbe, kLbe, bLbe, GLbe⟩ := hLbe
  refine has_of F g (F.binds (ps := ["_law_state_here", "_law_pieces_here", "_law_inside"]) fun _ _ _ _ _ _ us hl => match us, hl with | [_, _, _], _ => rfl) (F.ok scLbe (fun vs H Q E h => ?_) (fun cdv A outer s H vs Q E hr h => ?_))
  · obtain ⟨S, R, m, bu, v, ws, i, b, r, rfl, _⟩ := h
    rfl
  · refine ⟨_, (pss_cons (ps_if (pt_cmpR (op_eqD hr.units) (pv 1) (pe_lst pa_nil) (nomark _)) (pss_one (ps_ret (pe_lst (pa_cons (pe_call GLo (hr.mono (by omega)) rfl gLo kLo bLo .nil pass0 (pa_cons (pv 0) pa_nil)) pa_nil)))) pss_nil)
        (pss_cons (ps_set (i := 3) scLbe.nd rfl (.inl rfl) (pe_call GDr (hr.mono (by omega)) rfl gDr kDr bDr .nil pass0 (pa_cons (pv 0) (pa_cons (pe_callB call_len_seq (by rfl) B.len PySem.boot_len (pa_cons (pv 1) pa_nil)) pa_nil))))
        (pss_cons (ps_set (i := 4) scLbe.nd rfl (.inl rfl) (pe_ix ix_list (pv 1) (pv 3) (fun _ _ => rfl)))
        (pss_cons (ps_set (i := 5) scLbe.nd rfl (.inl rfl) (pe_lst (pa_cons (pe_call GLo (hr.mono (by omega)) rfl gLo kLo bLo .nil pass0 (pa_cons (pv 0) pa_nil)) pa_nil)))
        (pss_cons (ps_set (i := 6) scLbe.nd rfl (.inl rfl) (pe_call GDr (hr.mono (by omega)) rfl gDr kDr bDr .nil pass0 (pa_cons (pv 0) (pa_cons pe_int pa_nil))))
        (pss_cons (ps_weak (ps_if (pt_cmpR op_eq (pv 6) pe_int (nomark _)) (pss_one (ps_set (i := 5) scLbe.nd rfl (.inl rfl) (pe_lst (pa_cons (pv 4) (pa_cons (pv 4) pa_nil))))) (pss_one (ps_if (PW.pt (pw_and (pt_cmpR op_lt (pv 6) pe_int (nomark _)) (pw_and1 (pt_cmpR op_eq (pe_ix ix_tup (pv 4) pe_int (fun _ _ => rfl)) pe_str (nomark _))))) (pss_one (ps_set (i := 5) scLbe.nd rfl (.inl rfl) (pe_lst (pa_cons (pe_tup (pa_cons pe_str (pa_cons (pe_call GLbe hr rfl gLbe kLbe bLbe .nil pass0 (pa_cons (pv 0) (pa_cons (pe_ix ix_tup (pv 4) pe_int (fun _ _ => rfl)) (pa_cons pe_bl pa_nil)))) pa_nil))) pa_nil)))) (pss_one (ps_if (PW.pt (pw_and (pt_cmpR op_lt (pv 6) pe_int (nomark _)) (pw_and (pt_cmpR op_eq (pe_ix ix_tup (pv 4) pe_int (fun _ _ => rfl)) pe_str (nomark _)) (pw_and1 (pt_cmpR op_eq (pe_callB call_len_seq (by rfl) B.len PySem.boot_len (pa_cons (pe_ix ix_tup (pv 4) pe_int (fun _ _ => rfl)) pa_nil)) pe_int (nomark _)))))) (pss_one (ps_set (i := 5) scLbe.nd rfl (.inl rfl) (pe_lst (pa_cons (pe_tup (pa_cons pe_str (pa_cons (pe_ix ix_tup (pv 4) pe_int (fun _ _ => rfl)) (pa_cons (pe_tup (pa_cons (pe_ix ix_tup (pe_ix ix_tup (pv 4) pe_int (fun _ _ => rfl)) pe_int (fun _ _ => rfl)) (pa_cons (pe_ix ix_tup (pe_ix ix_tup (pv 4) pe_int (fun _ _ => rfl)) pe_int (fun _ _ => rfl)) (pa_cons (pe_call GLbe hr rfl gLbe kLbe bLbe .nil pass0 (pa_cons (pv 0) (pa_cons (pe_ix ix_tup (pe_ix ix_tup (pv 4) pe_int (fun _ _ => rfl)) pe_int (fun _ _ => rfl)) (pa_cons pe_bl pa_nil)))) pa_nil)))) pa_nil)))) pa_nil)))) pss_nil))))))
        (pss_one (ps_ret (pe_op op_cat (pe_op op_cat (pe_slice sl_list (pv 1) po_none (po_some (pv 3))) (pv 5)) (pe_slice sl_list (pv 1) (po_some (pe_op op_add (pv 3) pe_int)) po_none)))))))))), ?_⟩
    obtain ⟨S, R, m, bu, v, ws, i, b, r, rfl, hm, T, dv, wr, k⟩ := h
    have shw : SeqAt.shaped (.list ws) = true := sh_ok (sh_mono (sh_lst (ws_sh (n + 1) wr)) (by omega) : Sh 60 _) (by decide)
    obtain ⟨hlw, ps, al, _, _⟩ := id wr
    have pcs : ∀ p ∈ ws, PcN (n + 1) i p := fun p mm => by
      obtain ⟨q, _, h⟩ := al.mem mm
      exact ⟨_, _, pc_mono (fun _ _ _ h => ws_mono n h) (fun _ _ _ h => ws_mono n h) h⟩
    refine rd_eqnil rfl (dp_same U_back dv) shw fun H1 s1 => ⟨_, rfl, ?_⟩
    have u1 := U_same (S := S) (R := R) s1
    have T1 := T.same s1
    have dv1 := dp_same u1 dv
    cases hw : ws with
    | nil =>
      refine if_yes rfl ⟨_, rfl, S, R, m, bu, rfl, by omega, T1, fun H2 x p s T2 u2 dp ok hs mp => ⟨(by decide : 1 ≤ sizeLine), fun D nD => ?_⟩⟩
      have ne := T2.ne nD
      obtain ⟨b', r', wr'⟩ := ws_ex (n := n + 1) (i := i) (ws := [p]) (by show 1 ≤ n + 1 + 3; omega) (fun q mm => by
        rw [List.mem_singleton.mp mm]
        exact odd_pc ok hs p mp)
      exact k _ _ [p] b' r' ((T2.upd ne).le (by omega)) ((u1.trans u2).trans (U_new nD)) (.lst (SqL.of (U_set upd_same ne.1 ne.2)) (dpAll_same (U_new nD) (.cons dp .nil))) wr' (Nat.le_refl 1)
    | cons p0 ws0 =>
    rw [← hw]
    have wl : 0 < ws.length := by rw [hw]; exact Nat.succ_pos _
    clear hw
    refine if_no (by cases ws with | nil => exact absurd wl (Nat.lt_irrefl _) | cons _ _ => rfl) ?_
    obtain ⟨a, xs, rfl, hq, all⟩ := dp_lst dv1
    have lx := dpLen all
    have hq1 : SqL K H1 a xs := U_back.seq hq
    refine ⟨_, rfl, _, rfl, a, xs, rfl, .inl hq1, ?_⟩
    refine drw _ _ _ m _ ((xs.length : Nat) : Int) _ _ T1 (by omega) (by omega) (by omega) fun H2 at' hat T2 u2 _ => ?_
    have at2 : at' < ws.length := by omega
    have all2 := dpAll_same u2 all
    have hq2 : SqL K (U S R H2) a xs := u2.seq hq
    obtain ⟨p, hp⟩ : ∃ p, ws[at']? = some p := ⟨_, List.getElem?_eq_getElem at2⟩
    obtain ⟨pv, hpv, dp⟩ := dpAt all2 hp
    refine ⟨_, rfl, _, rfl, a, _, _, _, rfl, rfl, U_back.seq hq2, atI_nat hpv, ?_⟩
    refine ⟨_, rfl, S, R, m + 1, bu, rfl, by omega, T2, fun H3 ov op so T3 u3 dop oko hso mo => ⟨(by decide : 1 ≤ sizeLine), fun D nD => ?_⟩⟩
    have neD := T3.ne nD
    have T4 := T3.upd (o := .lst [ov]) neD
    have uD := U_new (S := S) (R := R) (o := .lst [ov]) nD
    have hD4 : U S R (L2.upd H3 D (.lst [ov])) D = some (.lst [ov]) := U_set upd_same neD.1 neD.2
    generalize L2.upd H3 D (.lst [ov]) = H4 at T4 uD hD4 ⊢
    refine ⟨_, rfl, drw _ _ _ _ _ 4 _ _ T4 (by omega) (by decide) (by decide) fun H5 pk hpk T5 u5 _ => ?_⟩
    have w5 := ((u2.trans u3).trans uD).trans u5
    have dp5 := dp_same ((u3.trans uD).trans u5) dp
    have opc : PcN (n + 1) i op := odd_pc oko hso op mo
    have hpc : PcN (n + 1) i p := pcs p (List.mem_of_getElem? hp)
    refine ⟨fun σ' H' => ∃ (P5 : Addr) (ys : List V) (ds : List PyData), σ' = [some (.ref S), some (.ref a), some (.bl i), some (.int (at' : Nat)), some pv, some (.ref P5), some (.int (pk : Nat))] ∧ U S R H' P5 = some (.lst ys) ∧ DpAll K (U S R H') ys ds ∧ (1 ≤ ds.length ∧ ds.length ≤ 2) ∧ (∀ q ∈ ds, PcN (n + 1) i q) ∧ St bu H' S R (m + 20 * (n + 1)) ∧ Same (U S R H5) (U S R H'), ?_, ?_⟩
    · rintro σ' H' ⟨P5, ys, ds, rfl, hP, ad, ld, hds, T6, u6⟩
      have w6 := w5.trans u6
      have hq6 := w6.seq hq
      have all6 := dpAll_same w6 all
      have ly := dpLen ad
      refine ⟨_, rfl, _, rfl, _, rfl, a, xs, rfl, U_back.seq hq6, fun p1 n1 => ?_⟩
      rw [cutV_to]
      have v1 := U_new (S := S) (R := R) (o := .lst (xs.take at')) n1
      have T7 := T6.upd (o := .lst (xs.take at')) (T6.ne n1)
      have e1 : U S R (L2.upd H' p1 (.lst (xs.take at'))) p1 = some (.lst (xs.take at')) := U_set upd_same (T6.ne n1).1 (T6.ne n1).2
      generalize L2.upd H' p1 (.lst (xs.take at')) = Ha at v1 T7 e1 ⊢
      have ltk : (xs.take at').length ≤ at' := List.length_take_le ..
      refine ⟨_, rfl, p1, P5, xs.take at', ys, rfl, rfl, U_back _ _ e1, U_back _ _ (v1 _ _ hP), small_line (by omega), fun p2 n2 => ?_⟩
      have v2 := U_new (S := S) (R := R) (o := .lst (xs.take at' ++ ys)) n2
      have T8 := T7.upd (o := .lst (xs.take at' ++ ys)) (T7.ne n2)
      have e2 : U S R (L2.upd Ha p2 (.lst (xs.take at' ++ ys))) p2 = some (.lst (xs.take at' ++ ys)) := U_set upd_same (T7.ne n2).1 (T7.ne n2).2
      generalize L2.upd Ha p2 (.lst (xs.take at' ++ ys)) = Hb at v2 T8 e2 ⊢
      have w8 := (w6.trans v1).trans v2
      refine ⟨_, rfl, _, rfl, _, _, rfl, rfl, _, rfl, a, xs, rfl, U_back.seq (w8.seq hq), fun p3 n3 => ?_⟩
      have ec : cutV xs (some (((at' : Nat) : Int) + 1)) none = xs.drop (at' + 1) := cutV_from xs (at' + 1)
      rw [ec]
      have v3 := U_new (S := S) (R := R) (o := .lst (xs.drop (at' + 1))) n3
      have T9 := T8.upd (o := .lst (xs.drop (at' + 1))) (T8.ne n3)
      have e3 : U S R (L2.upd Hb p3 (.lst (xs.drop (at' + 1)))) p3 = some (.lst (xs.drop (at' + 1))) := U_set upd_same (T8.ne n3).1 (T8.ne n3).2
      generalize L2.upd Hb p3 (.lst (xs.drop (at' + 1))) = Hc at v3 T9 e3 ⊢
      have ldr : (xs.drop (at' + 1)).length ≤ xs.length := by rw [List.length_drop]; omega
      refine ⟨p2, p3, _, _, rfl, rfl, U_back _ _ (v3 _ _ e2), U_back _ _ e3, ?_, fun p4 n4 => ?_⟩
      · rw [List.length_append]
        exact small_line (by omega)
      have neF := T9.ne n4
      have v4 := U_new (S := S) (R := R) (o := .lst (xs.take at' ++ ys ++ xs.drop (at' + 1))) n4
      have w9 := (w8.trans v3).trans v4
      have dd : DpAll K (U S R (L2.upd Hc p4 (.lst (xs.take at' ++ ys ++ xs.drop (at' + 1))))) (xs.take at' ++ ys ++ xs.drop (at' + 1)) (ws.take at' ++ ds ++ ws.drop (at' + 1)) := by
        have z := dpAll_same w9 all
        exact dpApp (dpApp (dpTk at' z) (dpAll_same (((v1.trans v2).trans v3).trans v4) ad)) (dpDr (at' + 1) z)
      obtain ⟨b', r', wr'⟩ := ws_ex (n := n + 1) (i := i) (ws := ws.take at' ++ ds ++ ws.drop (at' + 1)) (by
        rw [List.length_append, List.length_append, List.length_take, List.length_drop]
        omega) (fun q mm => by
        rcases List.mem_append.mp mm with mm | mm
        · rcases List.mem_append.mp mm with mm | mm
          · exact pcs q (List.mem_of_mem_take mm)
          · exact hds q mm
        · exact pcs q (List.mem_of_mem_drop mm))
      exact k _ _ _ b' r' ((T9.upd neF).le (by omega)) (u1.trans w9) (.lst (SqL.of (U_set upd_same neF.1 neF.2)) dd) wr' (by rw [List.length_append, List.length_append]; omega)
    · have hD5 := u5 _ _ hD4
      have dop5 := dp_same (uD.trans u5) dop
      have T5' := T5.le (k := m + 20 * (n + 1)) (by omega)
      have keep : ∃ (P5 : Addr) (ys : List V) (ds : List PyData), [some (V.ref S), some (.ref a), some (.bl i), some (.int (at' : Nat)), some pv, some (.ref D), some (.int (pk : Nat))] = [some (V.ref S), some (.ref a), some (.bl i), some (.int (at' : Nat)), some pv, some (.ref P5), some (.int (pk : Nat))] ∧ U S R H5 P5 = some (.lst ys) ∧ DpAll K (U S R H5) ys ds ∧ (1 ≤ ds.length ∧ ds.length ≤ 2) ∧ (∀ q ∈ ds, PcN (n + 1) i q) ∧ St bu H5 S R (m + 20 * (n + 1)) ∧ Same (U S R H5) (U S R H5) :=
        ⟨D, [ov], [op], rfl, hD5, (.cons dop5 .nil), ⟨Nat.le_refl 1, (by show 1 ≤ 2; decide)⟩, fun q mm => by rw [List.mem_singleton.mp mm]; exact opc, T5', Same.refl _⟩
      refine (pu_eq rfl) _ (if_by (fun e => ?_) (fun e0 => ?_))
      · refine ⟨_, rfl, _, rfl, (by decide : 2 ≤ sizeLine), fun D2 nD2 => ?_⟩
        have ne := T5'.ne nD2
        refine ⟨D2, [pv, pv], [p, p], rfl, U_set upd_same ne.1 ne.2, dpAll_same (U_new nD2) (.cons dp5 (.cons dp5 .nil)), ⟨(by show 1 ≤ 2; decide), (by show 2 ≤ 2; decide)⟩, fun q mm => ?_, T5'.upd ne, U_new nD2⟩
        rcases List.mem_cons.mp mm with e | mm
        · rw [e]; exact hpc
        · rw [List.mem_singleton.mp mm]; exact hpc
      obtain ⟨q, _, hpq⟩ := al.at hp
      -- a list of one piece that is made anew
      have one : ∀ (Ha : Hp) (x : V) (nw : PyData), St bu Ha S R (m + 20 * (n + 1)) → Same (U S R H5) (U S R Ha) → Dp K (U S R Ha) x nw → PcN (n + 1) i nw → ∀ D2, Ha D2 = none → ∃ (P5 : Addr) (ys : List V) (ds : List PyData), [some (V.ref S), some (.ref a), some (.bl i), some (.int (at' : Nat)), some pv, some (.ref D2), some (.int (pk : Nat))] = [some (V.ref S), some (.ref a), some (.bl i), some (.int (at' : Nat)), some pv, some (.ref P5), some (.int (pk : Nat))] ∧ U S R (L2.upd Ha D2 (.lst [x])) P5 = some (.lst ys) ∧ DpAll K (U S R (L2.upd Ha D2 (.lst [x]))) ys ds ∧ (1 ≤ ds.length ∧ ds.length ≤ 2) ∧ (∀ q ∈ ds, PcN (n + 1) i q) ∧ St bu (L2.upd Ha D2 (.lst [x])) S R (m + 20 * (n + 1)) ∧ Same (U S R H5) (U S R (L2.upd Ha D2 (.lst [x]))) := fun Ha x nw Ta ua dx hx D2 nD2 => by
        have ne := Ta.ne nD2
        exact ⟨D2, [x], [nw], rfl, U_set upd_same ne.1 ne.2, dpAll_same (U_new nD2) (.cons dx .nil), ⟨Nat.le_refl 1, (by decide : 1 ≤ 2)⟩, fun q mm => by rw [List.mem_singleton.mp mm]; exact hx, Ta.upd ne, ua.trans (U_new nD2)⟩
      rcases hpq with ⟨kk, x, rfl, hk, hx', _, _⟩ | ⟨w', bw, rw', rfl, hww, _, _⟩ | ⟨x, d, bd, rfl, hx', hd', _⟩ | ⟨t, rfl, _, _, _, _, _⟩ | ⟨cs, bs, rfl, hcl, _, _, _, _⟩
      · obtain ⟨bb, z, rfl, q1⟩ := head_read (dp_same U_back dp5)
        refine (pu_and (pu_lt rfl) fun _ => pu_head q1 rfl) _ (if_by (fun e => ?_) (fun e => ?_))
        · rw [Bool.and_eq_true] at e
          exact absurd (V.str.inj (of_decide_eq_true e.2)) (hk.wide)
        refine (pu_and (pu_lt rfl) fun _ => pu_and0 (pu_head q1 rfl) (decide_eq_false fun z => (hk.name) (V.str.inj z))) _ (if_by (fun e => ?_) (fun e => keep))
        rw [Bool.and_eq_true] at e
        cases e.2
      · obtain ⟨bb, y, rfl, q1, h1⟩ := pc_two dp5
        have q1B := sqT_same U_back q1
        cases n with
        | zero => exact hww.elim
        | succ n =>
        refine (pu_and (pu_lt rfl) fun _ => pu_head q1B rfl) _ (if_by (fun e => ?_) (fun e => ?_))
        · refine ⟨_, rfl, _, rfl, bb, _, 1, _, rfl, rfl, q1B, atI_nat (j := 1) rfl, S, R, _, bu, y, w', true, bw, rw', rfl, ?_, T5, h1, hww, fun H6 v6 ws6 b6 r6 T6 u6 dv6 wr6 _ => ⟨(by decide : 2 ≤ sizeLine), fun T0 nT => ⟨(by decide : 1 ≤ sizeLine), fun D2 nD2 => ?_⟩⟩⟩
          · omega
          have ne := T6.ne nT
          exact one _ _ (.tuple [.str "wide", .list ws6]) ((T6.upd ne).le (by omega)) (u6.trans (U_new nT)) (mk_tupU nT ne (.cons (.str _) (.cons dv6 .nil))) ⟨_, _, .inr (.inl ⟨ws6, b6, r6, rfl, wr6, rfl, rfl⟩)⟩ D2 nD2
        · refine (pu_and (pu_lt rfl) fun _ => pu_and0 (pu_head q1B rfl) (by decide +kernel)) _ (if_by (fun e => ?_) (fun e => keep))
          rw [Bool.and_eq_true] at e
          cases e.2
      · obtain ⟨bb, xv, dv', rfl, q1, h0, h2⟩ := pc_three dp5
        have q1B := sqT_same U_back q1
        refine (pu_and (pu_lt rfl) fun _ => pu_head q1B rfl) _ (if_by (fun e => ?_) (fun e => ?_))
        · rw [Bool.and_eq_true] at e
          exact absurd (V.str.inj (of_decide_eq_true e.2)) (by decide +kernel)
        rcases hd' with ⟨rfl, _, _⟩ | ⟨rfl, _, _⟩ | ⟨kk, c, w', bw, rw', rfl, hkk, hww, _, _⟩ | ⟨mm, w', bw, rw', rfl, hmm, hww, _, _⟩
        · obtain ⟨b2, zs, rfl, q2, allb⟩ := dp_tup h2
          cases allb
          have q2B := sqT_same U_back q2
          refine (pu_and (b := decide (((pk : Nat) : Int) < 3)) (c := false) (pu_lt rfl) fun _ => pu_and (b := true) (c := false) (fun Q q => pu_head q1B rfl Q (by rw [decide_eq_true rfl]; exact q)) fun _ => fun Q q => ⟨_, rfl, bb, _, 2, _, rfl, rfl, q1B, atI_nat (j := 2) rfl, b2, _, rfl, .inr q2B, rfl, _, rfl, q⟩) _ (if_by (fun e => ?_) (fun e => keep))
          rw [Bool.and_eq_true] at e
          cases e.2
        · obtain ⟨b2, zs, rfl, q2, allb⟩ := dp_tup h2
          cases allb with
          | cons _ allb =>
          cases allb
          have q2B := sqT_same U_back q2
          refine (pu_and (b := decide (((pk : Nat) : Int) < 3)) (c := false) (pu_lt rfl) fun _ => pu_and (b := true) (c := false) (fun Q q => pu_head q1B rfl Q (by rw [decide_eq_true rfl]; exact q)) fun _ => fun Q q => ⟨_, rfl, bb, _, 2, _, rfl, rfl, q1B, atI_nat (j := 2) rfl, b2, _, rfl, .inr q2B, rfl, _, rfl, q⟩) _ (if_by (fun e => ?_) (fun e => keep))
          rw [Bool.and_eq_true] at e
          cases e.2
        · obtain ⟨b2, cv, y, rfl, q2, h3, h4⟩ := pc_three h2
          have q2B := sqT_same U_back q2
          cases n with
          | zero => exact hww.elim
          | succ n =>
          refine (pu_and (b := decide (((pk : Nat) : Int) < 3)) (c := true) (pu_lt rfl) fun _ => pu_and (b := true) (c := true) (fun Q q => pu_head q1B rfl Q (by rw [decide_eq_true rfl]; exact q)) fun _ => fun Q q => ⟨_, rfl, bb, _, 2, _, rfl, rfl, q1B, atI_nat (j := 2) rfl, b2, _, rfl, .inr q2B, rfl, _, rfl, q⟩) _ (if_by (fun e => ?_) (fun e => keep))
          refine ⟨_, rfl, bb, _, 1, _, rfl, rfl, q1B, atI_nat (j := 1) rfl, _, rfl, bb, _, 2, _, rfl, rfl, q1B, atI_nat (j := 2) rfl, b2, _, 0, _, rfl, rfl, q2B, atI_nat (j := 0) rfl, _, rfl, bb, _, 2, _, rfl, rfl, q1B, atI_nat (j := 2) rfl, b2, _, 1, _, rfl, rfl, q2B, atI_nat (j := 1) rfl, ?_⟩
          refine ⟨_, rfl, _, rfl, bb, _, 2, _, rfl, rfl, q1B, atI_nat (j := 2) rfl, b2, _, 2, _, rfl, rfl, q2B, atI_nat (j := 2) rfl, S, R, _, bu, y, w', false, bw, rw', rfl, ?_, T5, h4, hww, fun H6 v6 ws6 b6 r6 T6 u6 dv6 wr6 _ => ⟨(by decide : 3 ≤ sizeLine), fun T0 nT => ⟨(by decide : 3 ≤ sizeLine), fun T1' nT1 => ⟨(by decide : 1 ≤ sizeLine), fun D2 nD2 => ?_⟩⟩⟩⟩
          · omega
          have ne := T6.ne nT
          have dd6 := mk_tupU nT ne (.cons (.str kk) (.cons (dp_same u6 h3) (.cons dv6 .nil)))
          have T7 := T6.upd (o := .tup [.str kk, cv, v6]) ne
          have ne1 := T7.ne nT1
          exact one _ _ (.tuple [.str "name", .str x, .tuple [.str kk, .bool c, .list ws6]]) ((T7.upd ne1).le (by omega)) ((u6.trans (U_new nT)).trans (U_new nT1)) (mk_tupU nT1 ne1 (.cons (.str _) (.cons (dp_same (u6.trans (U_new nT)) h0) (.cons dd6 .nil)))) ⟨_, _, .inr (.inr (.inl ⟨x, _, _, rfl, hx', .inr (.inr (.inl ⟨kk, c, ws6, b6, r6, rfl, hkk, wr6, rfl, rfl⟩)), rfl⟩))⟩ D2 nD2
        · obtain ⟨b2, cv, y, rfl, q2, h3, h4⟩ := pc_three h2
          have q2B := sqT_same U_back q2
          cases n with
          | zero => exact hww.elim
          | succ n =>
          refine (pu_and (b := decide (((pk : Nat) : Int) < 3)) (c := true) (pu_lt rfl) fun _ => pu_and (b := true) (c := true) (fun Q q => pu_head q1B rfl Q (by rw [decide_eq_true rfl]; exact q)) fun _ => fun Q q => ⟨_, rfl, bb, _, 2, _, rfl, rfl, q1B, atI_nat (j := 2) rfl, b2, _, rfl, .inr q2B, rfl, _, rfl, q⟩) _ (if_by (fun e => ?_) (fun e => keep))
          refine ⟨_, rfl, bb, _, 1, _, rfl, rfl, q1B, atI_nat (j := 1) rfl, _, rfl, bb, _, 2, _, rfl, rfl, q1B, atI_nat (j := 2) rfl, b2, _, 0, _, rfl, rfl, q2B, atI_nat (j := 0) rfl, _, rfl, bb, _, 2, _, rfl, rfl, q1B, atI_nat (j := 2) rfl, b2, _, 1, _, rfl, rfl, q2B, atI_nat (j := 1) rfl, ?_⟩
          refine ⟨_, rfl, _, rfl, bb, _, 2, _, rfl, rfl, q1B, atI_nat (j := 2) rfl, b2, _, 2, _, rfl, rfl, q2B, atI_nat (j := 2) rfl, S, R, _, bu, y, w', false, bw, rw', rfl, ?_, T5, h4, hww, fun H6 v6 ws6 b6 r6 T6 u6 dv6 wr6 _ => ⟨(by decide : 3 ≤ sizeLine), fun T0 nT => ⟨(by decide : 3 ≤ sizeLine), fun T1' nT1 => ⟨(by decide : 1 ≤ sizeLine), fun D2 nD2 => ?_⟩⟩⟩⟩
          · omega
          have ne := T6.ne nT
          have dd6 := mk_tupU nT ne (.cons (.str "cut") (.cons (dp_same u6 h3) (.cons dv6 .nil)))
          have T7 := T6.upd (o := .tup [.str "cut", cv, v6]) ne
          have ne1 := T7.ne nT1
          exact one _ _ (.tuple [.str "name", .str x, .tuple [.str "cut", .str mm, .list ws6]]) ((T7.upd ne1).le (by omega)) ((u6.trans (U_new nT)).trans (U_new nT1)) (mk_tupU nT1 ne1 (.cons (.str _) (.cons (dp_same (u6.trans (U_new nT)) h0) (.cons dd6 .nil)))) ⟨_, _, .inr (.inr (.inl ⟨x, _, _, rfl, hx', .inr (.inr (.inr ⟨mm, ws6, b6, r6, rfl, hmm, wr6, rfl, rfl⟩)), rfl⟩))⟩ D2 nD2
      · obtain ⟨bb, z, rfl, q1⟩ := head_read (dp_same U_back dp5)
        refine (pu_and (pu_lt rfl) fun _ => pu_head q1 rfl) _ (if_by (fun e => ?_) (fun e => ?_))
        · rw [Bool.and_eq_true] at e
          exact absurd (V.str.inj (of_decide_eq_true e.2)) (by decide +kernel)
        refine (pu_and (pu_lt rfl) fun _ => pu_and0 (pu_head q1 rfl) (by decide +kernel)) _ (if_by (fun e => ?_) (fun e => keep))
        rw [Bool.and_eq_true] at e
        cases e.2
      · obtain ⟨bb, z, rfl, q1⟩ := head_read (dp_same U_back dp5)
        refine (pu_and (pu_lt rfl) fun _ => pu_head q1 rfl) _ (if_by (fun e => ?_) (fun e => ?_))
        · rw [Bool.and_eq_true] at e
          exact absurd (V.str.inj (of_decide_eq_true e.2)) (by decide +kernel)
        refine (pu_and (pu_lt rfl) fun _ => pu_and0 (pu_head q1 rfl) (by decide +kernel)) _ (if_by (fun e => ?_) (fun e => keep))
        rw [Bool.and_eq_true] at e
        cases e.2
end
end Qb
end PySem
namespace PySem
namespace Qb
open PySem.W PySem.Calls PyProof.Rows L2
/-! # what the law holds for right -/
def madeB (sm : Str) (x : Str) : Bool := decide (x ≠ "") && (cs x).all fun c => decide (c ∈ cs sm)
def spLm : Sp := fun vs H Q _ => ∃ (x sm : Str), vs = [.str x, .str sm] ∧ x.length ≤ big ∧ sm.length ≤ 500 ∧ ∀ H', Same H H' → Q (.bl (madeB sm x)) H'
def ndB (x : Str) : Bool := isNameB (cs x) || isPlB (cs x)
abbrev spLnd : Sp := spTxt fun x => .bl (ndB x)
theorem nd_pl {x : Str} (h : x ∈ plW) : ndB x = true := (by decide +kernel : ∀ x ∈ plW, ndB x = true) x h
theorem made_ne {sm x : Str} (h : madeB sm x = true) : ∃ c r, cs x = c :: r ∧ c ∈ cs sm ∧ ∀ d ∈ r, d ∈ cs sm := by
  unfold madeB at h
  rw [Bool.and_eq_true, List.all_eq_true] at h
  cases e : cs x with
  | nil => exact absurd (cs_nil e) (of_decide_eq_true h.1)
  | cons c r =>
    rw [e] at h
    exact ⟨c, r, rfl, of_decide_eq_true (h.2 c (.head _)), fun d m => of_decide_eq_true (h.2 d (.tail _ m))⟩
theorem made_iff {sm x : Str} {c : Nat} {r : List Nat} (e : cs x = c :: r) : madeB sm x = (decide (c ∈ cs sm) && r.all fun d => decide (d ∈ cs sm)) := by
  unfold madeB
  have ne : x ≠ "" := fun z => by rw [z, show cs ("" : Str) = [] from by decide +kernel] at e; cases e
  rw [decide_eq_true ne, Bool.true_and, e, List.all_cons]
theorem pl_cons {x : Str} {c : Nat} {r : List Nat} (e : cs x = c :: r) (h : ¬ x ∈ plW) : isPlB (cs x) = (decide (c ≠ 48) && madeB digS x) := by
  unfold isPlB
  have e1 : inV (.str (st (cs x))) (plW.map V.str) = false := by
    rw [st_cs, inV_iff]
    exact decide_eq_false h
  rw [e1, Bool.false_or, made_iff e, e]
  show (true && (some c != some 48) && (c :: r).all fun d => decide (d ∈ digC)) = _
  rw [Bool.true_and, List.all_cons, cs_dig]
  have e2 : (some c != some 48) = decide (c ≠ 48) := by
    by_cases h : c = 48
    · subst h; decide
    · rw [decide_eq_true h]
      simpa using h
  rw [e2]
theorem ndm_cons {x : Str} {c : Nat} {r : List Nat} (e : cs x = c :: r) : isNameB (cs x) = (decide (c ∈ staC) && r.all fun d => decide (d ∈ namC)) := by
  rw [name_nm, e]
  rfl
theorem nd_dig {x : Str} {c : Nat} {r : List Nat} (e : cs x = c :: r) (h : ¬ x ∈ plW) (hd : madeB digS x = true) : ndB x = decide (c ≠ 48) := by
  unfold ndB
  have e1 : isNameB (cs x) = false := by
    rw [ndm_cons e]
    obtain ⟨c', r', e', m, _⟩ := made_ne hd
    rw [e] at e'
    obtain ⟨rfl, rfl⟩ := List.cons.inj e'
    have : ¬ c ∈ staC := (by decide +kernel : ∀ c ∈ cs digS, ¬ c ∈ staC) c m
    rw [decide_eq_false this, Bool.false_and]
  rw [e1, Bool.false_or, pl_cons e h, hd, Bool.and_true]
theorem nd_nam {x : Str} {c : Nat} {r : List Nat} (e : cs x = c :: r) (h : ¬ x ∈ plW) (hd : madeB digS x = false) : ndB x = (madeB namS x && decide (c ∈ cs staS)) := by
  unfold ndB
  rw [pl_cons e h, hd, Bool.and_false, Bool.or_false, ndm_cons e, made_iff e, cs_sta, cs_nam]
  by_cases hc : c ∈ staC
  · have : c ∈ namC := (by decide +kernel : ∀ c ∈ staC, c ∈ namC) c hc
    rw [decide_eq_true hc, decide_eq_true this, Bool.true_and, Bool.and_true]
  · rw [decide_eq_false hc, Bool.false_and, Bool.and_false]
def spLrs (K : Frag) : Nat → Sp
  | 0 => fun _ _ _ _ => False
  | n + 1 => fun vs H Q _ => ∃ (v : V) (t : Tm), vs = [v] ∧ Dp K H v t.d ∧ t.ht ≤ n ∧ t.fine ∧ t.lawf ∧ ∀ H', Same H H' → Q (.bl t.ok) H'
section
variable {P : Program} {w : World} {K : Frag} {mg : Str → Option Value} {base : Heap}
abbrev sLm : Stmt := top 78
abbrev nLm : List Str := ["_law_told", "_law_some", "_law_sign"]
theorem scLm : FnScope nLm ["_law_told", "_law_some"] (defScope sLm) := ⟨rfl, rfl, rfl, by decide +kernel, rfl, by decide +kernel, by decide +kernel⟩
theorem has_Lm {f : Addr} {fd : FuncData}  (F : Fun K "_law_made_of" "_law_made_of" sLm f fd) (g : mg "_law_made_of" = some (.ref f)) (B : Blt mg)  :
    Has P w K mg base 1 "_law_made_of" ["_law_told", "_law_some"] spLm := by
  refine has_of F g (F.binds (ps := ["_law_told", "_law_some"]) fun _ _ _ _ _ _ us hl => match us, hl with | [_, _], _ => rfl) (F.ok scLm (fun vs H Q E h => ?_) (fun cdv A outer s H vs Q E hr h => ?_))
  · obtain ⟨x, sm, rfl, _⟩ := h
    rfl
  · refine ⟨_, (pss_one (ps_ret (pe_and (pe_cmpR op_ne (pv 0) pe_str (nomark _)) (pe_one (pe_callB (cr_all rfl) (by rfl) B.all (by decide +kernel) (pa_cons (pe_lc (own := [("_law_sign", 2)]) (g := gName 2) (tt := tYes) rfl scLm.nd (pi_str (pv 0)) (blkOk_by (N := nLm) (sc := defScope sLm) (by decide +kernel)) (fun _ _ _ _ _ => pg_name (i := 2) scLm.nd rfl (.inl rfl)) (fun _ _ _ _ _ => pts_nil) (fun _ _ _ _ _ => (pe_cmpR op_in_sign (pv 2) (pv 1) (by rfl)))) pa_nil)))))), ?_⟩
    obtain ⟨x, sm, rfl, hx, hs, k⟩ := h
    have hz := big_line hx
    have hsz : sm.length ≤ sizeLine := small_line (by omega)
    refine ⟨_, rfl, rfl, _, rfl, ?_⟩
    by_cases h0 : x = ("" : Str)
    · subst h0
      refine if_no (by simp) ?_
      have z := k H (Same.refl H)
      rw [show madeB sm "" = false from by unfold madeB; rw [decide_eq_false (by simp)]; rfl] at z
      exact z
    · refine if_yes (by simpa using h0) ⟨_, rfl, x, rfl, fun D hD => lc_it walk_str (fun i H' => H' = L2.upd H D (.lst (((cs x).take i).map fun d => V.bl (decide (d ∈ cs sm))))) (by simp) (fun _ _ _ _ => trivial) (fun i v H' H2 hi e y => ?_) (fun H' e => ?_)⟩
      · obtain ⟨rfl, d, hd, rfl⟩ := y
        subst e
        have hd' : (cs x)[i]? = some d := by simpa using hd
        refine ⟨rfl, _, rfl, _, rfl, d, sm, rfl, rfl, _, upd_same, ?_, ?_⟩
        · rw [List.length_map, List.length_take]
          have := len_cs x
          rw [sizeLine_eq] at hz ⊢
          unfold big at hx
          omega
        · rw [upd_upd, take_snoc hd', List.map_append]
          rfl
      · subst e
        have e2 : (cs x).take x.cps.size = cs x := List.take_of_length_le (by simp)
        rw [e2]
        refine ⟨D, (cs x).map fun d => decide (d ∈ cs sm), rfl, SqL.of (by rw [upd_same, List.map_map]; rfl), ?_⟩
        rw [show madeB sm x = ((cs x).map fun d => decide (d ∈ cs sm)).all id from by unfold madeB; rw [decide_eq_true h0, Bool.true_and, List.all_map]; rfl] at k
        exact k _ (same_upd hD)
abbrev sLnd : Stmt := top 79
abbrev nLnd : List Str := ["_law_told", "_law_some"]
theorem scLnd : FnScope nLnd ["_law_told"] (defScope sLnd) := ⟨rfl, rfl, rfl, by decide +kernel, rfl, by decide +kernel, by decide +kernel⟩
theorem has_Lnd {f : Addr} {fd : FuncData}  (F : Fun K "_law_named" "_law_named" sLnd f fd) (g : mg "_law_named" = some (.ref f)) (B : Blt mg) (hLm : Has P w K mg base 1 "_law_made_of" ["_law_told", "_law_some"] spLm) :
    Has P w K mg base 2 "_law_named" ["_law_told"] spLnd := by
  obtain ⟨fLm, dLm, gLm, kLm, bLm, GLm⟩ := hLm
  refine has_of F g (F.binds (ps := ["_law_told"]) fun _ _ _ _ _ _ us hl => match us, hl with | [_], _ => rfl) (F.ok scLnd (fun vs H Q E h => ?_) (fun cdv A outer s H vs Q E hr h => ?_))
  · obtain ⟨x, rfl, _⟩ := h
    rfl
  · refine ⟨_, (pss_cons (ps_set (i := 1) scLnd.nd rfl (.inl rfl) pe_str)
        (pss_cons (ps_if (pt_cmpR op_in_seq (pv 0) (pe_lst (pa_cons pe_str (pa_cons pe_str (pa_cons pe_str (pa_cons pe_str (pa_cons pe_str pa_nil)))))) (by rfl)) (pss_one (ps_ret pe_bl)) pss_nil)
        (pss_cons (ps_if (pt_val (pe_call GLm hr rfl gLm kLm bLm .nil pass0 (pa_cons (pv 0) (pa_cons pe_str pa_nil)))) (pss_one (ps_ret (pe_cmpR op_ne (pe_ix ix_str (pv 0) pe_int (fun _ _ => rfl)) pe_str (nomark _)))) pss_nil)
        (pss_one (ps_ret (pe_and (pe_call GLm hr rfl gLm kLm bLm .nil pass0 (pa_cons (pv 0) (pa_cons (pe_op op_add_str (pv 1) pe_str) pa_nil))) (pe_one (pe_cmpR op_in_sign (pe_ix ix_str (pv 0) pe_int (fun _ _ => rfl)) (pv 1) (by rfl))))))))), ?_⟩
    obtain ⟨x, rfl, hx, k⟩ := h
    have k : ∀ H', Same H H' → Q (.bl (ndB x)) H' := k
    have hz := big_line hx
    refine ⟨_, rfl, (by decide : 5 ≤ sizeLine), fun L nL => ?_⟩
    have s1 := same_upd (o := .lst (plW.map V.str)) nL
    have hL : (L2.upd H L (.lst (plW.map V.str))) L = some (.lst (plW.map V.str)) := upd_same
    refine ⟨L, plW.map V.str, rfl, .inl (SqL.of hL), rfl, by decide +kernel, _, rfl, ?_⟩
    rw [if_neg (by decide : ¬ false = true), inV_iff]
    refine if_by (fun e => ?_) (fun e => ?_)
    · have z := k _ s1
      rw [nd_pl (of_decide_eq_true e)] at z
      exact z
    have np : ¬ x ∈ plW := of_decide_eq_false e
    refine ⟨_, rfl, x, digS, rfl, hx, by decide +kernel, fun H2 s2 => ⟨_, rfl, if_by (fun e1 => ?_) (fun e1 => ?_)⟩⟩
    · obtain ⟨c, r, ex, _, _⟩ := made_ne e1
      have ac : atI (cs x) 0 = some c := atI_nat (j := 0) (by rw [ex]; rfl)
      refine ⟨_, rfl, x, 0, c, rfl, rfl, hz, ac, rfl, ?_⟩
      have z := k _ (s1.trans s2)
      rw [nd_dig ex np e1] at z
      have e3 : (!decide (V.str ⟨#[c]⟩ = V.str "0")) = decide (c ≠ 48) := by
        have e0 : ("0" : Str) = ⟨#[48]⟩ := by decide +kernel
        by_cases h : c = 48
        · subst h
          rw [e0]
          simp
        · rw [decide_eq_true h, decide_eq_false]
          · rfl
          · intro q
            rw [e0] at q
            have := congrArg cs (V.str.inj q)
            exact h (List.head_eq_of_cons_eq (show [c] = [48] from this))
      rw [e3]
      exact z
    · refine ⟨_, rfl, _, rfl, _, _, rfl, rfl, by decide +kernel, ?_⟩
      refine ⟨x, namS, rfl, hx, by decide +kernel, fun H3 s3 => ⟨_, rfl, ?_⟩⟩
      have a3 := (s1.trans s2).trans s3
      cases e4 : madeB namS x with
      | false =>
        refine if_no rfl ?_
        have z := k _ a3
        have e5 : ndB x = false := by
          cases ex : cs x with
          | nil =>
            rw [cs_nil ex]
            decide +kernel
          | cons c r => rw [nd_nam ex np e1, e4, Bool.false_and]
        rw [e5] at z
        exact z
      | true =>
        obtain ⟨c, r, ex, _, _⟩ := made_ne e4
        have ac : atI (cs x) 0 = some c := atI_nat (j := 0) (by rw [ex]; rfl)
        refine if_yes rfl ⟨_, rfl, x, 0, c, rfl, rfl, hz, ac, _, rfl, c, staS, rfl, rfl, ?_⟩
        have z := k _ a3
        rw [nd_nam ex np e1, e4, Bool.true_and] at z
        exact z
theorem lc_allT {K : Frag} {a D : Addr} {xs : List V} {bs : List Bool} {H : Hp} {σ : L2.St} {vs : List Nat} {g : TG} {te : TE} {Qd : Hp → Prop} (hq : SqT K H a xs) (hD : H D = none) (hb : bs.length = xs.length) (hl : xs.length ≤ 1000)
    (turn : ∀ (i : Nat) (x : V) (b : Bool) (H' : Hp) (Q : VK), xs[i]? = some x → bs[i]? = some b → Same H H' → (∀ H4, Same H' H4 → Q (.bl b) H4) → g x (wipe σ vs) H' fun σ2 H2 => wipe σ2 vs = wipe σ vs ∧ te σ2 H2 Q)
    (hd : ∀ H', Same H H' → SqL K H' D (bs.map V.bl) → Qd H') :
    ∃ W : Nat → Nat → Hp → Prop, (∃ m, W 0 m (L2.upd H D (.lst []))) ∧ ∀ i m H, W i m H →
      ((Itt K a).stop i H ∧ Qd H) ∨ ((Itt K a).go i H ∧ ∃ Nx : Hp → Prop, (∀ H', Nx H' → ∃ m', m' < m ∧ W (i + 1) m' H') ∧ ∀ x H', (Itt K a).yld i H x H' → g x (wipe σ vs) H' fun σ2 H2 => wipe σ2 vs = wipe σ vs ∧ tYes σ2 H2 fun b H3 =>
        if b = true then te σ2 H3 fun y H4 => ∃ acc, H4 D = some (.lst acc) ∧ acc.length < sizeLine ∧ Nx (L2.upd H4 D (.lst (acc ++ [y]))) else Nx H3) := by
  refine lc_it (walk_tup (xs := xs)) (fun i H' => Same H H' ∧ H' D = some (.lst ((bs.take i).map V.bl))) ⟨same_upd hD, upd_same⟩ (fun i H' _ e => sqT_same e.1 hq) (fun i x H' H2 hi e y => ?_) (fun H' e => ?_)
  · obtain ⟨rfl, hx⟩ := y
    obtain ⟨s1, h1⟩ := e
    obtain ⟨b, hbi⟩ : ∃ b, bs[i]? = some b := ⟨_, List.getElem?_eq_getElem (by omega)⟩
    refine turn i x b H2 _ hx hbi s1 fun H4 s4 => ⟨_, s4 _ _ h1, ?_, same_upd2 (s1.trans s4) hD, ?_⟩
    · rw [List.length_map, List.length_take, sizeLine_eq]
      omega
    · rw [upd_same, take_snoc hbi, List.map_append]
      rfl
  · obtain ⟨s1, h1⟩ := e
    rw [← hb, List.take_length] at h1
    exact hd H' s1 (SqL.of h1)
theorem cut_from1 {xs : List V} : cutV xs (some 1) none = xs.drop 1 := cutV_from xs 1
abbrev sLrs : Stmt := top 80
abbrev nLrs : List Str := ["_law_node", "_law_part"]
theorem scLrs : FnScope nLrs ["_law_node"] (defScope sLrs) := ⟨rfl, rfl, rfl, by decide +kernel, rfl, by decide +kernel, by decide +kernel⟩
theorem has_Lrs {n : Nat} {f : Addr} {fd : FuncData}  (F : Fun K "_law_right_sum" "_law_right_sum" sLrs f fd) (g : mg "_law_right_sum" = some (.ref f)) (B : Blt mg) (hLnd : Has P w K mg base 2 "_law_named" ["_law_told"] spLnd) (hLrs : Has P w K mg base (n + 3) "_law_right_sum" ["_law_node"] (spLrs K n)) :
    Has P w K mg base (n + 4) "_law_right_sum" ["_law_node"] (spLrs K (n + 1)) := by
  obtain ⟨fLnd, dLnd, gLnd, kLnd, bLnd, GLnd⟩ := hLnd
  obtain ⟨fLrs, dLrs, gLrs, kLrs, bLrs, GLrs⟩ := hLrs
  refine has_of F g (F.binds (ps := ["_law_node"]) fun _ _ _ _ _ _ us hl => match us, hl with | [_], _ => rfl) (F.ok scLrs (fun vs H Q E h => ?_) (fun cdv A outer s H vs Q E hr h => ?_))
  · obtain ⟨v, t, rfl, _⟩ := h
    rfl
  · refine ⟨_, (pss_cons (ps_if (pt_cmpR op_eq (pe_ix ix_tup (pv 0) pe_int (fun _ _ => rfl)) pe_str (nomark _)) (pss_one (ps_ret (pe_cmpR op_ge (pe_ix ix_tup (pv 0) pe_int (fun _ _ => rfl)) pe_int (nomark _)))) pss_nil)
        (pss_cons (ps_if (pt_cmpR op_eq (pe_ix ix_tup (pv 0) pe_int (fun _ _ => rfl)) pe_str (nomark _)) (pss_one (ps_ret (pe_and (pe_call GLnd (hr.mono (by omega)) rfl gLnd kLnd bLnd .nil pass0 (pa_cons (pe_ix ix_tup (pv 0) pe_int (fun _ _ => rfl)) pa_nil)) (pe_one (pe_cmpR op_notIn_seq (pe_ix ix_tup (pv 0) pe_int (fun _ _ => rfl)) (pe_lst (pa_cons pe_str (pa_cons pe_str pa_nil))) (by rfl)))))) pss_nil)
        (pss_one (ps_ret (pe_and (pe_cmpR op_ne (pe_ix ix_tup (pv 0) pe_int (fun _ _ => rfl)) pe_str (nomark _)) (pe_one (pe_callB (cr_all rfl) (by rfl) B.all (by decide +kernel) (pa_cons (pe_lc (own := [("_law_part", 1)]) (g := gName 1) (tt := tYes) rfl scLrs.nd (pi_tup (pe_slice sl_tup (pv 0) (po_some pe_int) po_none)) (blkOk_by (N := nLrs) (sc := defScope sLrs) (by decide +kernel)) (fun _ _ _ _ _ => pg_name (i := 1) scLrs.nd rfl (.inl rfl)) (fun _ _ _ _ _ => pts_nil) (fun _ _ _ _ _ => (pe_call GLrs hr rfl gLrs kLrs bLrs .nil pass0 (pa_cons (pv 1) pa_nil)))) pa_nil)))))))), ?_⟩
    obtain ⟨v, t, rfl, hd, hh, hf, lw, k⟩ := h
    have s_ne : ∀ {a b : Str}, a ≠ b → decide (V.str a = V.str b) = false := fun h => decide_eq_false fun z => h (V.str.inj z)
    -- the parts of a node
    have node : (∃ i, t = .num i) ∨ (∃ x, t = .of x) ∨ ∃ (p : Addr) (s' : Str) (xs : List V) (ts : List Tm), v = .ref p ∧ SqT K H p (.str s' :: xs) ∧ DpAll K H xs (ts.map Tm.d) ∧ xs ≠ [] ∧ ts.length ≤ 3 ∧ (∀ u ∈ ts, u.ht + 1 ≤ n ∧ u.fine ∧ u.lawf) ∧ s' ≠ "number" ∧ s' ≠ "of" ∧ (t.ok = (decide (s' ≠ "zip") && ts.all Tm.ok)) := by
      cases t with
      | odd b => exact lw.elim
      | num i => exact .inl ⟨i, rfl⟩
      | of x => exact .inr (.inl ⟨x, rfl⟩)
      | one s' a =>
        obtain ⟨p, x, rfl, hq, hx⟩ := pc_two hd
        have hh : 1 + a.ht ≤ n := hh
        refine .inr (.inr ⟨p, s', [x], [a], rfl, hq, (.cons hx .nil), (by simp), (by show 1 ≤ 3; decide), (fun u m => by rw [List.mem_singleton.mp m]; exact ⟨by omega, hf.2.2, lw.2⟩), hf.1, hf.2.1, ?_⟩)
        show ((s' == "minus" || s' == "no") && a.ok) = (_ && (a.ok && true))
        rw [Bool.and_true]
        rcases lw.1 with rfl | rfl | rfl
        · rfl
        · rfl
        · rfl
      | two s' a b =>
        obtain ⟨p, x, y, rfl, hq, hx, hy⟩ := pc_three hd
        have hh : 1 + max a.ht b.ht ≤ n := hh
        have ns := (fun h => by
          obtain ⟨c, m⟩ := op_tpk h
          exact (by decide +kernel : ∀ p ∈ tpk, p.1 ≠ "number" ∧ p.1 ≠ "of" ∧ p.1 ≠ "zip") _ m : isOp s' = true → s' ≠ "number" ∧ s' ≠ "of" ∧ s' ≠ "zip") lw.1
        refine .inr (.inr ⟨p, s', [x, y], [a, b], rfl, hq, (.cons hx (.cons hy .nil)), (by simp), (by show 2 ≤ 3; decide), (fun u m => ?_), ns.1, ns.2.1, ?_⟩)
        · rcases List.mem_cons.mp m with rfl | m
          · exact ⟨by omega, hf.1, lw.2.1⟩
          · rw [List.mem_singleton.mp m]; exact ⟨by omega, hf.2, lw.2.2⟩
        · show (isOp s' && (a.ok && b.ok)) = (_ && (a.ok && (b.ok && true)))
          rw [Bool.and_true, lw.1, decide_eq_true ns.2.2]
      | three s' a b c =>
        obtain ⟨p, x, y, z, rfl, hq, hx, hy, hz⟩ := pc_four hd
        have hh : 1 + max a.ht (max b.ht c.ht) ≤ n := hh
        obtain ⟨e, la, lb, lc⟩ := lw
        subst e
        refine .inr (.inr ⟨p, "choose", [x, y, z], [a, b, c], rfl, hq, (.cons hx (.cons hy (.cons hz .nil))), (by simp), (by show 3 ≤ 3; decide), (fun u m => ?_), (by decide +kernel), (by decide +kernel), ?_⟩)
        · rcases List.mem_cons.mp m with rfl | m
          · exact ⟨by omega, hf.1, la⟩
          rcases List.mem_cons.mp m with rfl | m
          · exact ⟨by omega, hf.2.1, lb⟩
          · rw [List.mem_singleton.mp m]; exact ⟨by omega, hf.2.2, lc⟩
        · show ((_ == _) && (a.ok && (b.ok && c.ok))) = (_ && (a.ok && (b.ok && (c.ok && true))))
          rw [Bool.and_true]
          rfl
    rcases node with ⟨i, rfl⟩ | ⟨x, rfl⟩ | ⟨p, s', xs, ts, rfl, hq, all, xne, lts, hts, n1, n2, eok⟩
    · obtain ⟨p, x, rfl, hq, hx⟩ := pc_two hd
      cases hx
      exact ⟨_, rfl, p, _, 0, _, rfl, rfl, hq, atI_nat (j := 0) rfl, rfl, _, rfl, if_yes rfl ⟨_, rfl, p, _, 1, _, rfl, rfl, hq, atI_nat (j := 1) rfl, _, _, rfl, rfl, k H (Same.refl H)⟩⟩
    · obtain ⟨p, x', rfl, hq, hx⟩ := pc_two hd
      cases hx
      refine ⟨_, rfl, p, _, 0, _, rfl, rfl, hq, atI_nat (j := 0) rfl, rfl, _, rfl, if_no (by decide +kernel) ?_⟩
      refine ⟨_, rfl, p, _, 0, _, rfl, rfl, hq, atI_nat (j := 0) rfl, rfl, _, rfl, if_yes rfl ?_⟩
      refine ⟨_, rfl, p, _, 1, _, rfl, rfl, hq, atI_nat (j := 1) rfl, x, rfl, hf, fun H2 s2 => ⟨_, rfl, ?_⟩⟩
      have okE : (Tm.of x).ok = (ndB x && !inV (.str x) (alW.map V.str)) := by
        show (isNameB (cs x) || (isPlB (cs x) && !inV (.str x) (alW.map V.str))) = ((isNameB (cs x) || isPlB (cs x)) && !inV (.str x) (alW.map V.str))
        cases hn : isNameB (cs x) with
        | false => rfl
        | true =>
          have : inV (.str x) (alW.map V.str) = false := by
            rw [inV_iff]
            refine decide_eq_false fun m => ?_
            have := (by decide +kernel : ∀ x ∈ alW, isNameB (cs x) = false) x m
            rw [hn] at this
            cases this
          rw [this]
          rfl
      rw [okE] at k
      cases hn : ndB x with
      | false =>
        rw [hn] at k
        exact if_no rfl (k _ s2)
      | true =>
        rw [hn, Bool.true_and] at k
        refine if_yes rfl ⟨_, rfl, p, _, 1, _, rfl, rfl, sqT_same s2 hq, atI_nat (j := 1) rfl, (by decide : 2 ≤ sizeLine), fun L nL => ?_⟩
        refine ⟨L, alW.map V.str, rfl, .inl (SqL.of upd_same), rfl, by decide +kernel, ?_⟩
        rw [if_pos rfl]
        exact k _ (s2.trans (same_upd nL))
    · refine ⟨_, rfl, p, _, 0, _, rfl, rfl, hq, atI_nat (j := 0) rfl, rfl, _, rfl, if_no (s_ne n1) ?_⟩
      refine ⟨_, rfl, p, _, 0, _, rfl, rfl, hq, atI_nat (j := 0) rfl, rfl, _, rfl, if_no (s_ne n2) ?_⟩
      refine ⟨_, rfl, p, _, 0, _, rfl, rfl, hq, atI_nat (j := 0) rfl, rfl, _, rfl, ?_⟩
      rw [eok] at k
      by_cases hz : s' = "zip"
      · rw [decide_eq_false (fun z => z hz), Bool.false_and] at k
        exact if_no (by rw [hz]; decide +kernel) (k H (Same.refl H))
      rw [decide_eq_true hz, Bool.true_and] at k
      refine if_yes (by rw [s_ne hz]; rfl) ?_
      have lx := dpLen all
      rw [List.length_map] at lx
      have e1 : HT.sIx (V.str s' :: xs).length 0 (some 1) = 1 := by
        have z := HT.sIx_nat (V.str s' :: xs).length 0 1
        exact z.trans (Nat.min_eq_left (by rw [List.length_cons]; omega))
      refine ⟨_, rfl, _, rfl, p, _, rfl, hq, fun z => absurd z.1 (by rw [e1]; decide), fun T nT => ?_⟩
      have s1 := same_upd (o := .tup (cutV (V.str s' :: xs) (some 1) none)) nT
      have hT : SqT K (L2.upd H T (.tup (cutV (V.str s' :: xs) (some 1) none))) T xs := SqT.of (by rw [upd_same, cut_from1]; rfl)
      generalize L2.upd H T (.tup (cutV (V.str s' :: xs) (some 1) none)) = H1 at s1 hT ⊢
      refine ⟨T, rfl, ⟨_, hT⟩, fun D hD => lc_allT (bs := ts.map Tm.ok) hT hD (by rw [List.length_map, lx]) (by omega) (fun j x b' H' Q' hx hb s2 q => ?_) (fun H2 s2 q1 => ⟨D, _, rfl, q1, ?_⟩)⟩
      · obtain ⟨d, hdi, dp⟩ := dpAt' all hx
        rw [List.getElem?_map] at hdi hb
        cases et : ts[j]? with
        | none => rw [et] at hdi; cases hdi
        | some u =>
          rw [et] at hdi hb
          obtain rfl := Option.some.inj hdi
          obtain rfl := Option.some.inj hb
          obtain ⟨u1, u2, u3⟩ := hts u (List.mem_of_getElem? et)
          obtain ⟨n', rfl⟩ : ∃ n', n = n' + 1 := ⟨n - 1, by omega⟩
          exact ⟨rfl, _, rfl, x, u, rfl, dp_same (s1.trans s2) dp, by omega, u2, u3, fun H3 s3 => q H3 s3⟩
      · have e2 : (ts.map Tm.ok).all id = ts.all Tm.ok := by rw [List.all_map]; rfl
        rw [e2]
        exact k _ (s1.trans s2)
theorem ok_Lrs {f : Addr} {fd : FuncData} (F : Fun K "_law_right_sum" "_law_right_sum" sLrs f fd) (g : mg "_law_right_sum" = some (.ref f)) (B : Blt mg) (hLnd : Has P w K mg base 2 "_law_named" ["_law_told"] spLnd) : ∀ n, Has P w K mg base (n + 3) "_law_right_sum" ["_law_node"] (spLrs K n)
  | 0 => by
    refine has_of F g (F.binds (ps := ["_law_node"]) fun _ _ _ _ _ _ us hl => match us, hl with | [_], _ => rfl) (F.ok scLrs (fun vs H Q E h => ?_) (fun cdv A outer s H vs Q E hr h => ?_))
    · exact (show False from h).elim
    · exact (show False from h).elim
  | n + 1 => has_Lrs F g B hLnd (ok_Lrs F g B hLnd n)
end
end Qb
end PySem
namespace PySem
namespace Qb
open PySem.W PySem.Calls PyProof.Rows L2
/-! # what pieces and words the law holds for right -/
def spLri (K : Frag) (n : Nat) : Sp := fun vs H Q _ => ∃ (v : V) (ws : List PyData) (i b r : Bool), vs = [v, .bl i] ∧ Dp K H v (.list ws) ∧ WsR CRo n i ws b r ∧ ∀ H', Same H H' → Q (.bl (b && r)) H'
def spLrp (K : Frag) (n : Nat) : Sp := fun vs H Q _ => ∃ (v : V) (p : PyData) (i b r : Bool), vs = [v, .bl i] ∧ Dp K H v p ∧ PcR CRo (WsR CRo n false) (WsR CRo n true) i p b r ∧ ∀ H', Same H H' → Q (.bl (b && r)) H'
theorem made_bare (x : Str) : madeB ("abcdefghijklmnopqrstuvwxyzABCDEFGHIJKLMNOPQRSTUVWXYZ0123456789" ++ "./_-,:+@=*?[]!~") x = isBareB (cs x) := by
  have e : ("abcdefghijklmnopqrstuvwxyzABCDEFGHIJKLMNOPQRSTUVWXYZ0123456789" : Str) ++ ("./_-,:+@=*?[]!~" : Str) = bareS := by decide +kernel
  rw [e]
  unfold madeB isBareB
  cases ex : cs x with
  | nil =>
    rw [cs_nil ex]
    decide +kernel
  | cons c r =>
    have ne : x ≠ "" := fun z => by rw [z, show cs ("" : Str) = [] from by decide +kernel] at ex; cases ex
    rw [decide_eq_true ne]
    rfl
/-- the two deeds on # that would show as its size -/
theorem tst_shown {K : Frag} {σ : L2.St} {H : Hp} {x : Str} {v : V} {d : PyData} (h4 : σ[4]? = some (some (.str x))) (h5 : σ[5]? = some (some v)) (dv : Dp K H v d) (sh : Sh 60 d) {Q : Bool → Hp → Prop} (q : ∀ H', Same H H' → Q (shownB x d) H') :
    tAnd (tTest (tOp rEq (tVar 4) (tC (.str "#")))) (tTest (tOp (rInD K) (tVar 5) (tLst (tCons (tTup (tCons (tC (.str "must")) (tCons (tC (.bl false)) (tCons (tLst tNil) tNil)))) (tCons (tTup (tCons (tC (.str "cut")) (tCons (tC (.str "#")) (tCons (tLst tNil) tNil)))) tNil))))) σ H Q := by
  unfold shownB at q
  refine ⟨_, h4, rfl, _, rfl, ?_⟩
  by_cases c : x = "#"
  · subst c
    rw [decide_eq_true rfl] at q
    refine if_yes (decide_eq_true rfl) ?_
    refine ⟨_, h5, (by decide : 0 ≤ sizeLine), fun L1 n1 => ?_⟩
    have q1 := same_upd (o := .lst []) n1
    have d1 : Dp K (L2.upd H L1 (.lst [])) (.ref L1) (.list []) := .lst (SqL.of upd_same) .nil
    generalize L2.upd H L1 (.lst []) = H1 at q1 d1 ⊢
    refine ⟨(by decide : 3 ≤ sizeLine), fun T1 m1 => ?_⟩
    have q2 := same_upd (o := .tup [.str "must", .bl false, .ref L1]) m1
    have d2 : Dp K (L2.upd H1 T1 (.tup [.str "must", .bl false, .ref L1])) (.ref T1) must0 := .tup (SqT.of upd_same) (.cons (.str _) (.cons (.bl _) (.cons (dp_same q2 d1) .nil)))
    generalize L2.upd H1 T1 (.tup [.str "must", .bl false, .ref L1]) = H2 at q2 d2 ⊢
    refine ⟨(by decide : 0 ≤ sizeLine), fun L2' n2 => ?_⟩
    have q3 := same_upd (o := .lst []) n2
    have d3 : Dp K (L2.upd H2 L2' (.lst [])) (.ref L2') (.list []) := .lst (SqL.of upd_same) .nil
    generalize L2.upd H2 L2' (.lst []) = H3 at q3 d3 ⊢
    refine ⟨(by decide : 3 ≤ sizeLine), fun T2 m2 => ?_⟩
    have q4 := same_upd (o := .tup [.str "cut", .str "#", .ref L2']) m2
    have d4 : Dp K (L2.upd H3 T2 (.tup [.str "cut", .str "#", .ref L2'])) (.ref T2) cut0 := .tup (SqT.of upd_same) (.cons (.str _) (.cons (.str _) (.cons (dp_same q4 d3) .nil)))
    generalize L2.upd H3 T2 (.tup [.str "cut", .str "#", .ref L2']) = H4 at q4 d4 ⊢
    refine ⟨(by decide : 2 ≤ sizeLine), fun T3 m3 => ?_⟩
    have q5 := same_upd (o := .lst [.ref T1, .ref T2]) m3
    have a5 := q1.trans (q2.trans (q3.trans (q4.trans q5)))
    exact ⟨d, [must0, cut0], dp_same a5 dv, .lst (SqL.of upd_same) (.cons (dp_same (q3.trans (q4.trans q5)) d2) (.cons (dp_same q5 d4) .nil)), sh60 sh, by decide +kernel, _, rfl, q _ a5⟩
  · rw [decide_eq_false c, Bool.false_and] at q
    exact if_no (decide_eq_false fun z => c (V.str.inj z)) (q _ (Same.refl H))
theorem eqv_d1 (a b c : PyData) : PyData.eqv (.tuple [a, b, c]) (.tuple []) = false := rfl
section
variable {P : Program} {w : World} {K : Frag} {mg : Str → Option Value} {base : Heap}
abbrev sLrp : Stmt := top 81
abbrev nLrp : List Str := ["_law_piece_here", "_law_inside", "_law_kind", "_law_node", "_law_name_here", "_law_deed_here", "_law_some"]
theorem scLrp : FnScope nLrp ["_law_piece_here", "_law_inside"] (defScope sLrp) := ⟨rfl, rfl, rfl, by decide +kernel, rfl, by decide +kernel, by decide +kernel⟩
theorem has_Lrp {n L : Nat} (l16 : 17 ≤ L) (l14 : n ≤ 10) {f : Addr} {fd : FuncData}  (F : Fun K "_law_right_piece" "_law_right_piece" sLrp f fd) (g : mg "_law_right_piece" = some (.ref f)) (B : Blt mg) (hLrs : Has P w K mg base 16 "_law_right_sum" ["_law_node"] (spLrs K 13)) (hLnd : Has P w K mg base 2 "_law_named" ["_law_told"] spLnd) (hLri : Has P w K mg base L "_law_right" ["_law_pieces_here", "_law_inside"] (spLri K n)) (hLm : Has P w K mg base 1 "_law_made_of" ["_law_told", "_law_some"] spLm) :
    Has P w K mg base (L + 1) "_law_right_piece" ["_law_piece_here", "_law_inside"] (spLrp K n) := by
  obtain ⟨fLrs, dLrs, gLrs, kLrs, bLrs, GLrs⟩ := hLrs
  obtain ⟨fLnd, dLnd, gLnd, kLnd, bLnd, GLnd⟩ := hLnd
  obtain ⟨fLri, dLri, gLri, kLri, bLri, GLri⟩ := hLri
  obtain ⟨fLm, dLm, gLm, kLm, bLm, GLm⟩ := hLm
  refine has_of F g (F.binds (ps := ["_law_piece_here", "_law_inside"]) fun _ _ _ _ _ _ us hl => match us, hl with | [_, _], _ => rfl) (F.ok scLrp (fun vs H Q E h => ?_) (fun cdv A outer s H vs Q E hr h => ?_))
  · obtain ⟨v, p, i, b, r, rfl, _⟩ := h
    rfl
  · have hu : (A.deeper (envOfC "_law_right_piece" (defScope sLrp) s.heap.objs.size f cdv)).units + 65 < cLine := by
      have := hr.un
      omega
    refine ⟨_, (pss_cons (ps_set (i := 2) scLrp.nd rfl (.inl rfl) (pe_ix ix_tup (pv 0) pe_int (fun _ _ => rfl)))
        (pss_cons (ps_if (pt_cmpR op_eq (pv 2) pe_str (nomark _)) (pss_one (ps_ret (pe_call GLrs (hr.mono (by omega)) rfl gLrs kLrs bLrs .nil pass0 (pa_cons (pe_ix ix_tup (pv 0) pe_int (fun _ _ => rfl)) pa_nil)))) pss_nil)
        (pss_cons (ps_if (pt_cmpR op_eq (pv 2) pe_str (nomark _)) (pss_one (ps_ret (pe_callB (cr_all rfl) (by rfl) B.all (by decide +kernel) (pa_cons (pe_lc (te := tOp (rNeD K) (tOp (rIxT K) (tVar 3) (tC (.int 2))) (tLst tNil)) (own := [("_law_node", 3)]) (g := gName 3) (tt := tYes) rfl scLrp.nd (pi_list (pe_ix ix_tup (pv 0) pe_int (fun _ _ => rfl))) (blkOk_by (N := nLrp) (sc := defScope sLrp) (by decide +kernel)) (fun _ _ _ _ _ => pg_name (i := 3) scLrp.nd rfl (.inl rfl)) (fun _ _ _ _ _ => pts_nil) (fun _ _ _ _ _ => (pe_cmpR (op_neD hr.units) (pe_ix ix_tup (pv 3) pe_int (fun _ _ => rfl)) (pe_lst pa_nil) (nomark _)))) pa_nil)))) pss_nil)
        (pss_cons (ps_if (pt_cmpR op_eq (pv 2) pe_str (nomark _)) (pss_cons (ps_par (i := 4) (j := 5) rfl scLrp.nd rfl rfl (by decide) rfl rfl (pa_cons (pe_ix ix_tup (pv 0) pe_int (fun _ _ => rfl)) (pa_cons (pe_ix ix_tup (pv 0) pe_int (fun _ _ => rfl)) pa_nil)) rfl)
          (pss_cons (ps_if (PW.pt (pw_or (pt_not (pt_val (pe_call GLnd (hr.mono (by omega)) rfl gLnd kLnd bLnd .nil pass0 (pa_cons (pv 4) pa_nil)))) (pw_or (pt_cmpR (op_eqD hr.units) (pv 5) (pe_tup pa_nil) (nomark _)) (pw_or1 (pt_cmpR (op_eqD hr.units) (pv 5) (pe_tup (pa_cons pe_str pa_nil)) (nomark _)))))) (pss_one (ps_ret (pe_call GLnd (hr.mono (by omega)) rfl gLnd kLnd bLnd .nil pass0 (pa_cons (pv 4) pa_nil)))) pss_nil)
          (pss_cons (ps_if (PW.pt (pw_or (PW.pt (pw_and (pt_cmpR op_eq (pe_ix ix_tup (pv 5) pe_int (fun _ _ => rfl)) pe_str (nomark _)) (pw_and1 (pt_cmpR op_notIn_seq (pe_ix ix_tup (pv 5) pe_int (fun _ _ => rfl)) (pe_lst (pa_cons pe_str (pa_cons pe_str (pa_cons pe_str (pa_cons pe_str pa_nil))))) (by rfl))))) (pw_or1 (pt_cmpR op_eq (pe_ix ix_tup (pv 5) pe_int (fun _ _ => rfl)) pe_str (nomark _))))) (pss_one (ps_ret pe_bl)) pss_nil)
          (pss_cons (ps_if (PW.pt (pw_and (pt_cmpR op_eq (pv 4) pe_str (nomark _)) (pw_and1 (pt_cmpR (op_inD hu) (pv 5) (pe_lst (pa_cons (pe_tup (pa_cons pe_str (pa_cons pe_bl (pa_cons (pe_lst pa_nil) pa_nil)))) (pa_cons (pe_tup (pa_cons pe_str (pa_cons pe_str (pa_cons (pe_lst pa_nil) pa_nil)))) pa_nil))) (by rfl))))) (pss_one (ps_ret pe_bl)) pss_nil)
          (pss_one (ps_ret (pe_call GLri hr rfl gLri kLri bLri .nil pass0 (pa_cons (pe_ix ix_tup (pv 5) pe_int (fun _ _ => rfl)) (pa_cons pe_bl pa_nil))))))))) pss_nil)
        (pss_cons (ps_if (PW.pt (pw_or (pt_val (pv 1)) (pw_or1 (pt_cmpR op_eq (pv 2) pe_str (nomark _))))) (pss_one (ps_ret (pe_and (pv 1) (pe_and (pe_cmpR op_eq (pv 2) pe_str (nomark _)) (pe_one (pe_cmpR op_ne (pe_ix ix_tup (pv 0) pe_int (fun _ _ => rfl)) pe_str (nomark _))))))) pss_nil)
        (pss_cons (ps_if (pt_cmpR op_eq (pv 2) pe_str (nomark _)) (pss_one (ps_ret (pe_call GLri hr rfl gLri kLri bLri .nil pass0 (pa_cons (pe_ix ix_tup (pv 0) pe_int (fun _ _ => rfl)) (pa_cons pe_bl pa_nil))))) pss_nil)
        (pss_cons (ps_if (pt_cmpR op_eq (pv 2) pe_str (nomark _)) (pss_cons (ps_set (i := 6) scLrp.nd rfl (.inl rfl) pe_str)
          (pss_one (ps_ret (pe_call GLm (hr.mono (by omega)) rfl gLm kLm bLm .nil pass0 (pa_cons (pe_ix ix_tup (pv 0) pe_int (fun _ _ => rfl)) (pa_cons (pe_op op_add_str (pv 6) pe_str) pa_nil)))))) pss_nil)
        (pss_cons (ps_if (pt_cmpR op_eq (pv 2) pe_str (nomark _)) (pss_one (ps_ret (pe_cmpR op_notIn_sign pe_str (pe_ix ix_tup (pv 0) pe_int (fun _ _ => rfl)) (by rfl)))) pss_nil)
        (pss_one (ps_ret (pe_and (pe_cmpR op_eq (pv 2) pe_str (nomark _)) (pe_and (pe_cmpR op_eq (pe_callB call_len (by rfl) B.len PySem.boot_len (pa_cons (pe_ix ix_tup (pv 0) pe_int (fun _ _ => rfl)) pa_nil)) pe_int (nomark _)) (pe_one (pe_cmpR op_ne (pe_ix ix_tup (pv 0) pe_int (fun _ _ => rfl)) pe_str (nomark _))))))))))))))), ?_⟩
    obtain ⟨v, p, i, b, r, rfl, hd, hp, k⟩ := h
    rcases hp with ⟨kk, x, rfl, hk, hx, rfl, rfl⟩ | ⟨ws, bw, rw', rfl, hw, rfl, rfl⟩ | ⟨x, d, bd, rfl, hx, hdd, rfl⟩ | ⟨t, rfl, hf, hh, hr', rfl, rfl⟩ | ⟨cs', bs, rfl, hl, hc, hs, rfl, rfl⟩
    · -- a kind and a text
      have lx : x.length ≤ big := Nat.le_trans hx.len (by decide)
      have lz : x.length ≤ sizeLine := small_line (Nat.le_trans hx.len (by decide))
      obtain ⟨a, x1, rfl, hq, h1⟩ := pc_two hd
      cases h1
      rw [Bool.and_true] at k
      have s_ne : ∀ {a b : Str}, a ≠ b → decide (V.str a = V.str b) = false := fun h => decide_eq_false fun z => h (V.str.inj z)
      refine ⟨_, rfl, a, _, 0, _, rfl, rfl, hq, atI_nat (j := 0) rfl, ?_⟩
      refine ⟨_, rfl, rfl, _, rfl, if_no (s_ne hk.sum) ⟨_, rfl, rfl, _, rfl, if_no (s_ne hk.run) ⟨_, rfl, rfl, _, rfl, if_no (s_ne hk.name) ?_⟩⟩⟩
      cases i with
      | true =>
        have eb : txtB true kk x = (decide (kk = "plain") && decide (x ≠ "")) := by unfold txtB; rw [if_pos rfl]
        rw [eb] at k
        refine ⟨_, rfl, true, rfl, if_yes rfl (if_yes rfl ⟨_, rfl, true, rfl, if_yes rfl ⟨_, rfl, rfl, _, rfl, ?_⟩⟩)⟩
        by_cases hp : kk = "plain"
        · rw [decide_eq_true hp, Bool.true_and] at k
          refine if_yes (decide_eq_true (congrArg V.str hp)) ⟨_, rfl, a, _, 1, _, rfl, rfl, hq, atI_nat (j := 1) rfl, rfl, ?_⟩
          have e : (!decide (V.str x = V.str "")) = decide (x ≠ "") := by rw [dec_str, decide_not]
          rw [e]
          exact k H (Same.refl H)
        · rw [decide_eq_false hp, Bool.false_and] at k
          exact if_no (s_ne hp) (k H (Same.refl H))
      | false =>
        refine ⟨_, rfl, false, rfl, if_no rfl ⟨_, rfl, rfl, _, rfl, ?_⟩⟩
        by_cases hp : kk = "plain"
        · subst hp
          refine if_yes (decide_eq_true rfl) ⟨_, rfl, false, rfl, if_no rfl ?_⟩
          have z := k H (Same.refl H)
          exact z
        refine if_no (s_ne hp) ⟨_, rfl, rfl, _, rfl, if_no (s_ne hk.wide) ⟨_, rfl, rfl, _, rfl, ?_⟩⟩
        by_cases c1 : kk = "bare"
        · subst c1
          rw [b_bare] at k
          refine if_yes (decide_eq_true rfl) ⟨_, rfl, a, _, 1, _, rfl, rfl, hq, atI_nat (j := 1) rfl, _, rfl, _, _, rfl, rfl, by decide +kernel, ?_⟩
          refine ⟨x, _, rfl, lx, by decide +kernel, fun H2 s2 => ?_⟩
          have z := k H2 s2
          rw [← made_bare] at z
          exact z
        refine if_no (s_ne c1) ⟨_, rfl, rfl, _, rfl, ?_⟩
        by_cases c2 : kk = "held"
        · subst c2
          rw [b_held] at k
          refine if_yes (decide_eq_true rfl) ⟨_, rfl, a, _, 1, _, rfl, rfl, hq, atI_nat (j := 1) rfl, 39, x, rfl, rfl, k H (Same.refl H)⟩
        refine if_no (s_ne c2) ⟨_, rfl, rfl, _, rfl, ?_⟩
        have e0 : txtB false kk x = (decide (kk = "mark") && (decide (x.length = 1) && decide (x ≠ ("\n" : Str)))) := by
          unfold txtB
          rw [if_neg (by decide), if_neg c1, if_neg c2]
          by_cases c3 : kk = "mark"
          · rw [if_pos c3, decide_eq_true c3, Bool.true_and]
          · rw [if_neg c3, decide_eq_false c3, Bool.false_and]
        rw [e0] at k
        by_cases c3 : kk = "mark"
        · rw [decide_eq_true c3, Bool.true_and] at k
          refine if_yes (decide_eq_true (congrArg V.str c3)) ⟨_, rfl, a, _, 1, _, rfl, rfl, hq, atI_nat (j := 1) rfl, .str x, x.length, rfl, ⟨lz, rfl⟩, rfl, _, rfl, ?_⟩
          by_cases l1 : x.length = 1
          · rw [decide_eq_true l1, Bool.true_and] at k
            refine if_yes (by rw [l1]; decide) ⟨_, rfl, a, _, 1, _, rfl, rfl, hq, atI_nat (j := 1) rfl, rfl, ?_⟩
            have e : (!decide (V.str x = V.str "\n")) = decide (x ≠ ("\n" : Str)) := by rw [dec_str, decide_not]
            rw [e]
            exact k H (Same.refl H)
          · rw [decide_eq_false l1, Bool.false_and] at k
            refine if_no (decide_eq_false fun w => l1 ?_) (k H (Same.refl H))
            injection w with w
            omega
        · rw [decide_eq_false c3, Bool.false_and] at k
          exact if_no (s_ne c3) (k H (Same.refl H))
    · -- wide
      obtain ⟨a, x1, rfl, hq, h1⟩ := pc_two hd
      refine ⟨_, rfl, a, _, 0, _, rfl, rfl, hq, atI_nat (j := 0) rfl, ?_⟩
      refine ⟨_, rfl, rfl, _, rfl, if_no (by decide +kernel) ⟨_, rfl, rfl, _, rfl, if_no (by decide +kernel) ⟨_, rfl, rfl, _, rfl, if_no (by decide +kernel) ?_⟩⟩⟩
      cases i with
      | true =>
        refine ⟨_, rfl, true, rfl, if_yes rfl (if_yes rfl ⟨_, rfl, true, rfl, if_yes rfl ⟨_, rfl, rfl, _, rfl, if_no (by decide +kernel) (k H (Same.refl H))⟩⟩)⟩
      | false =>
        refine ⟨_, rfl, false, rfl, if_no rfl ⟨_, rfl, rfl, _, rfl, if_no (by decide +kernel) ⟨_, rfl, rfl, _, rfl, if_yes rfl ?_⟩⟩⟩
        exact ⟨_, rfl, a, _, 1, _, rfl, rfl, hq, atI_nat (j := 1) rfl, x1, ws, true, bw, _, rfl, h1, hw, k⟩
    · -- name
      obtain ⟨a, x1, x2, rfl, hq, h1, h2⟩ := pc_three hd
      cases h1
      have k : ∀ H', Same H H' → Q (.bl ((ndB x && bd) && r)) H' := k
      have lx : x.length ≤ big := Nat.le_trans hx.len (by decide)
      have sh : Sh 60 d := sh_mono (dd_sh (n := 15 + 3 * n) (fun _ _ _ h => ws_sh n h) hdd) (by omega)
      refine ⟨_, rfl, a, _, 0, _, rfl, rfl, hq, atI_nat (j := 0) rfl, ?_⟩
      refine ⟨_, rfl, rfl, _, rfl, if_no (by decide +kernel) ⟨_, rfl, rfl, _, rfl, if_no (by decide +kernel) ⟨_, rfl, rfl, _, rfl, if_yes rfl ?_⟩⟩⟩
      refine ⟨_, rfl, a, _, 1, _, rfl, rfl, hq, atI_nat (j := 1) rfl, _, rfl, a, _, 2, _, rfl, rfl, hq, atI_nat (j := 2) rfl, _, _, rfl, ?_⟩
      refine ⟨_, rfl, x, rfl, lx, fun H1 s1 => ⟨_, rfl, ?_⟩⟩
      cases hn : ndB x with
      | false =>
        rw [hn, Bool.false_and, Bool.false_and] at k
        refine if_yes rfl (if_yes rfl ⟨_, rfl, x, rfl, lx, fun H2 s2 => ?_⟩)
        show Q (.bl (ndB x)) H2
        rw [hn]
        exact k H2 (s1.trans s2)
      | true =>
      rw [hn, Bool.true_and] at k
      refine if_no rfl ⟨_, rfl, (by decide : 0 ≤ sizeLine), fun T nT => ?_⟩
      have a2 := s1.trans (same_upd (o := .tup []) nT)
      refine ⟨d, .tuple [], dp_same a2 h2, .tup (SqT.of upd_same) .nil, sh60 sh, by decide, _, rfl, ?_⟩
      have ret : ∀ H2, Same H H2 → (bd && r) = true → ∀ H4, Same H2 H4 → Q (.bl (ndB x)) H4 := fun H2 t2 e H4 t4 => by
        have z := k H4 (t2.trans t4)
        rw [e] at z
        rw [hn]
        exact z
      rcases hdd with ⟨rfl, rfl, rfl⟩ | ⟨rfl, rfl, rfl⟩ | ⟨kk, c, ws, bw, rw', rfl, hk, hw, rfl, rfl⟩ | ⟨m, ws, bw, rw', rfl, hm, hw, rfl, rfl⟩
      · exact if_yes (by decide) (if_yes rfl ⟨_, rfl, x, rfl, lx, fun H4 t4 => ret _ a2 rfl H4 t4⟩)
      · refine if_no (by decide +kernel) ?_
        generalize L2.upd H1 T (.tup []) = H2 at a2 ⊢
        refine ⟨_, rfl, (by decide : 1 ≤ sizeLine), fun T2 nT2 => ?_⟩
        have a3 := a2.trans (same_upd (o := .tup [.str "size"]) nT2)
        exact ⟨sizD, sizD, dp_same a3 h2, .tup (SqT.of upd_same) (.cons (.str _) .nil), by decide +kernel, by decide +kernel, _, rfl, if_yes (by decide +kernel) ⟨_, rfl, x, rfl, lx, fun H4 t4 => ret _ a3 rfl H4 t4⟩⟩
      · refine if_no (eqv_d0 _ _) ?_
        generalize L2.upd H1 T (.tup []) = H2 at a2 ⊢
        refine ⟨_, rfl, (by decide : 1 ≤ sizeLine), fun T2 nT2 => ?_⟩
        have a3 := a2.trans (same_upd (o := .tup [.str "size"]) nT2)
        refine ⟨_, sizD, dp_same a3 h2, .tup (SqT.of upd_same) (.cons (.str _) .nil), sh60 sh, by decide +kernel, _, rfl, if_no (eqv_3s _ _ _) ?_⟩
        generalize L2.upd H2 T2 (.tup [.str "size"]) = H3 at a3 ⊢
        obtain ⟨bb, y1, y2, rfl, q2, g1, g2⟩ := pc_three (dp_same a3 h2)
        have nc : kk ≠ "cut" := by
          rcases hk with z | rfl
          · exact (by decide +kernel : ∀ k ∈ dd4, k ≠ "cut") kk z
          · decide +kernel
        refine ⟨_, rfl, bb, _, 0, _, rfl, rfl, q2, atI_nat (j := 0) rfl, rfl, _, rfl, if_no (decide_eq_false fun z => nc (V.str.inj z)) (if_no rfl ⟨_, rfl, bb, _, 0, _, rfl, rfl, q2, atI_nat (j := 0) rfl, rfl, _, rfl, ?_⟩)⟩
        by_cases hz : kk = "zip"
        · subst hz
          have e : (("zip" : Str) ∈ dd4) = False := by simp only [eq_iff_iff, iff_false]; decide +kernel
          rw [decide_eq_false (by decide +kernel : ¬ ("zip" : Str) ∈ dd4), Bool.false_and, Bool.and_false, Bool.false_and] at k
          exact if_yes rfl (k _ a3)
        have k4 : kk ∈ dd4 := hk.resolve_right hz
        refine if_no (decide_eq_false fun z => hz (V.str.inj z)) ?_
        rw [decide_eq_true k4, Bool.true_and, Bool.not_true, Bool.false_or] at k
        refine tst_shown rfl rfl (dp_same a3 h2) sh fun H4 s4 => ?_
        have a4 := a3.trans s4
        cases hs : shownB x (.tuple [.str kk, .bool c, .list ws]) with
        | true =>
          rw [hs] at k
          exact if_yes rfl (k _ a4)
        | false =>
          rw [hs, Bool.not_false, Bool.true_and] at k
          exact if_no rfl ⟨_, rfl, bb, _, 2, _, rfl, rfl, sqT_same s4 q2, atI_nat (j := 2) rfl, y2, ws, false, bw, rw', rfl, dp_same s4 g2, hw, fun H5 s5 => k _ (a4.trans s5)⟩
      · refine if_no (eqv_d0 _ _) ?_
        generalize L2.upd H1 T (.tup []) = H2 at a2 ⊢
        refine ⟨_, rfl, (by decide : 1 ≤ sizeLine), fun T2 nT2 => ?_⟩
        have a3 := a2.trans (same_upd (o := .tup [.str "size"]) nT2)
        refine ⟨_, sizD, dp_same a3 h2, .tup (SqT.of upd_same) (.cons (.str _) .nil), sh60 sh, by decide +kernel, _, rfl, if_no (eqv_3s _ _ _) ?_⟩
        generalize L2.upd H2 T2 (.tup [.str "size"]) = H3 at a3 ⊢
        obtain ⟨bb, y1, y2, rfl, q2, g1, g2⟩ := pc_three (dp_same a3 h2)
        cases g1
        refine ⟨_, rfl, bb, _, 0, _, rfl, rfl, q2, atI_nat (j := 0) rfl, rfl, _, rfl, if_yes rfl ⟨_, rfl, bb, _, 1, _, rfl, rfl, q2, atI_nat (j := 1) rfl, (by decide : 4 ≤ sizeLine), fun L nL => ?_⟩⟩
        have s4 := same_upd (o := .lst (cutW.map V.str)) nL
        refine ⟨L, cutW.map V.str, rfl, .inl (SqL.of upd_same), rfl, by decide +kernel, _, rfl, ?_⟩
        rw [if_pos rfl, inV_iff]
        by_cases hc : m ∈ cutW
        · rw [decide_eq_true hc] at k ⊢
          rw [Bool.true_and] at k
          refine if_no rfl ?_
          refine ⟨_, rfl, bb, _, 0, _, rfl, rfl, sqT_same s4 q2, atI_nat (j := 0) rfl, rfl, _, rfl, if_no (by decide +kernel) ?_⟩
          refine tst_shown rfl rfl (dp_same (a3.trans s4) h2) sh fun H4 s5 => ?_
          have a4 := (a3.trans s4).trans s5
          cases hs : shownB x (.tuple [.str "cut", .str m, .list ws]) with
          | true =>
            rw [hs] at k
            exact if_yes rfl (k _ a4)
          | false =>
            rw [hs, Bool.not_false, Bool.true_and] at k
            exact if_no rfl ⟨_, rfl, bb, _, 2, _, rfl, rfl, sqT_same (s4.trans s5) q2, atI_nat (j := 2) rfl, y2, ws, false, bw, _, rfl, dp_same (s4.trans s5) g2, hw, fun H5 s6 => k _ (a4.trans s6)⟩
        · rw [decide_eq_false hc] at k ⊢
          rw [Bool.false_and, Bool.and_false, Bool.false_and] at k
          exact if_yes rfl (if_yes rfl (k _ (a3.trans s4)))
    · -- sum
      obtain ⟨a, x1, rfl, hq, h1⟩ := pc_two hd
      rw [Bool.and_true] at k
      refine ⟨_, rfl, a, _, 0, _, rfl, rfl, hq, atI_nat (j := 0) rfl, ?_⟩
      exact ⟨_, rfl, rfl, _, rfl, if_yes rfl ⟨_, rfl, a, _, 1, _, rfl, rfl, hq, atI_nat (j := 1) rfl, x1, t, rfl, h1, hh, hf.1, hf.2, k⟩⟩
    · -- run
      obtain ⟨a, x1, rfl, hq, h1⟩ := pc_two hd
      rw [Bool.true_and] at k
      obtain ⟨c, xs, rfl, hqc, all⟩ := dp_lst h1
      have lx := dpLen all
      refine ⟨_, rfl, a, _, 0, _, rfl, rfl, hq, atI_nat (j := 0) rfl, ?_⟩
      refine ⟨_, rfl, rfl, _, rfl, if_no (by decide +kernel) ⟨_, rfl, rfl, _, rfl, if_yes rfl ?_⟩⟩
      refine ⟨_, rfl, a, _, 1, _, rfl, rfl, hq, atI_nat (j := 1) rfl, c, rfl, ⟨_, hqc⟩, fun D hD => lc_all (bs := bs) hqc hD (by rw [lx, hc.len]) (by omega) (fun j y b' H' Q' hy hb s2 q => ?_) (fun H2 s2 q1 => ⟨D, _, rfl, q1, k _ s2⟩)⟩
      obtain ⟨d, hdi, dp⟩ := dpAt' all hy
      obtain ⟨b2, hb2, e⟩ := hc.at hdi
      rw [hb] at hb2
      obtain rfl := Option.some.inj hb2
      rw [show d = cmdD b' from e] at dp
      obtain ⟨a2, y1, y2, y3, rfl, q2, d1, d2, d3⟩ := pc_four dp
      refine ⟨rfl, _, rfl, a2, _, 2, _, rfl, rfl, sqT_same s2 q2, atI_nat (j := 2) rfl, (by decide : 0 ≤ sizeLine), fun p0 np => ?_⟩
      have s3 := same_upd (o := .lst []) np
      refine ⟨.list (cmdW b'), .list [], dp_same (s2.trans s3) d2, .lst (SqL.of upd_same) .nil, cw_sh b', by decide, ?_⟩
      rw [eqv_nil, show (!(cmdW b').isEmpty) = b' from by cases b' <;> rfl]
      exact q _ s3
end
end Qb
end PySem
namespace PySem
namespace Qb
open PySem.W PySem.Calls PyProof.Rows L2
/-! # right words -/
theorem all_both (ps : List (Bool × Bool)) : (ps.all (·.1) && ps.all (·.2)) = ps.all fun q => q.1 && q.2 := by
  induction ps with
  | nil => rfl
  | cons q ps ih =>
    rw [List.all_cons, List.all_cons, List.all_cons, ← ih]
    cases q.1 <;> cases q.2 <;> simp
theorem all_bad {ps : List (Bool × Bool)} {q : Bool × Bool} (m : q ∈ ps) (h : (q.1 && q.2) = false) : (ps.all fun q => q.1 && q.2) = false := by
  cases e : ps.all fun q => q.1 && q.2 with
  | false => rfl
  | true =>
    rw [List.all_eq_true] at e
    rw [e q m] at h
    cases h
theorem nb_more (k : Str) (xs : List PyData) (h : nbB k xs = true) : ∀ (n : Nat) (ys : List PyData), ys.length = n → nbB k (xs ++ ys) = true
  | 0, ys, e => by
    rw [List.length_eq_zero_iff.mp e, List.append_nil]
    exact h
  | n + 1, ys, e => by
    have ne : ys ≠ [] := fun z => by rw [z] at e; cases e
    obtain ⟨ys', y, rfl⟩ : ∃ ys' y, ys = ys' ++ [y] := ⟨ys.dropLast, ys.getLast ne, (List.dropLast_concat_getLast ne).symm⟩
    rw [List.length_append, List.length_singleton] at e
    rw [← List.append_assoc, nb_snoc, nb_more k xs h n ys' (by omega), Bool.true_or]
theorem nb_take {k : Str} {ws : List PyData} {j : Nat} (h : nbB k (ws.take j) = true) : nbB k ws = true := by
  have := nb_more k (ws.take j) h _ (ws.drop j) rfl
  rwa [List.take_append_drop] at this
theorem last_take {ws : List PyData} {j : Nat} (h : j < ws.length) (h0 : 0 < j) : (ws.take j).getLast? = ws[j - 1]? := by
  rw [List.getLast?_eq_getElem?, List.length_take, List.getElem?_take]
  rw [if_pos (by omega), show min j ws.length - 1 = j - 1 by omega]
/-- right pieces of one kind and a text stand where that kind stands -/
theorem head_nb {n : Nat} {i : Bool} {p : PyData} {r : Bool} {y : Str} {l : List PyData} (h : PcR CRo (WsR CRo n false) (WsR CRo n true) i p true r) (e : p = .tuple (.str y :: l)) (hy : y ∈ ([("bare" : Str), "plain"])) : y = nbK i := by
  have key : ∀ {z : Str} {m : List PyData}, PyData.tuple (.str z :: m) = .tuple (.str y :: l) → z = y := fun q => by
    injection q with q
    injection q with q _
    injection q
  rcases h with ⟨k, x, rfl, _, _, hb, _⟩ | ⟨w, bw, rw, rfl, _⟩ | ⟨x, d, bd, rfl, _⟩ | ⟨t, rfl, _⟩ | ⟨cs, bs, rfl, _⟩
  · obtain rfl := key e
    have hb := hb.symm
    cases i with
    | true =>
      have eb : txtB true k x = (decide (k = "plain") && decide (x ≠ "")) := by unfold txtB; rw [if_pos rfl]
      rw [eb, Bool.and_eq_true] at hb
      exact of_decide_eq_true hb.1
    | false =>
      rcases List.mem_cons.mp hy with e | m
      · exact e
      · have e := List.mem_singleton.mp m
        rw [e] at hb
        have : txtB false "plain" x = false := by
          unfold txtB
          rw [if_neg (by decide), if_neg (by decide +kernel), if_neg (by decide +kernel), if_neg (by decide +kernel)]
        rw [this] at hb
        cases hb
  · obtain rfl := key e
    exact absurd hy (by decide +kernel)
  · obtain rfl := key e
    exact absurd hy (by decide +kernel)
  · obtain rfl := key e
    exact absurd hy (by decide +kernel)
  · obtain rfl := key e
    exact absurd hy (by decide +kernel)
section
variable {P : Program} {w : World} {K : Frag} {mg : Str → Option Value} {base : Heap}
abbrev sLri : Stmt := top 82
abbrev nLri : List Str := ["_law_pieces_here", "_law_inside", "_law_k"]
theorem scLri : FnScope nLri ["_law_pieces_here", "_law_inside"] (defScope sLri) := ⟨rfl, rfl, rfl, by decide +kernel, rfl, by decide +kernel, by decide +kernel⟩
theorem has_Lri {n L : Nat} (l14 : n ≤ 10) {f : Addr} {fd : FuncData}  (F : Fun K "_law_right" "_law_right" sLri f fd) (g : mg "_law_right" = some (.ref f)) (B : Blt mg) (hLrp : Has P w K mg base L "_law_right_piece" ["_law_piece_here", "_law_inside"] (spLrp K n)) :
    Has P w K mg base (L + 1) "_law_right" ["_law_pieces_here", "_law_inside"] (spLri K (n + 1)) := by
  obtain ⟨fLrp, dLrp, gLrp, kLrp, bLrp, GLrp⟩ := hLrp
  refine has_of F g (F.binds (ps := ["_law_pieces_here", "_law_inside"]) fun _ _ _ _ _ _ us hl => match us, hl with | [_, _], _ => rfl) (F.ok scLri (fun vs H Q E h => ?_) (fun cdv A outer s H vs Q E hr h => ?_))
  · obtain ⟨v, ws, i, b, r, rfl, _⟩ := h
    rfl
  · refine ⟨_, (pss_cons (ps_for PassesOwn.never rfl (pi_range1 (by rfl) B.range (pa_cons (pe_callB call_len_seq (by rfl) B.len PySem.boot_len (pa_cons (pv 0) pa_nil)) pa_nil)) (pg_name (i := 2) scLri.nd rfl (.inl rfl))
          (pss_cons (ps_if (pt_not (pt_val (pe_call GLrp hr rfl gLrp kLrp bLrp .nil pass0 (pa_cons (pe_ix ix_list (pv 0) (pv 2) (fun _ _ => rfl)) (pa_cons (pv 1) pa_nil))))) (pss_one (ps_ret pe_bl)) pss_nil)
          (pss_one (ps_if (PW.pt (pw_and (pt_cmpR op_gt (pv 2) pe_int (nomark _)) (pw_and (pt_cmpR op_in_seq (pe_ix ix_tup (pe_ix ix_list (pv 0) (pv 2) (fun _ _ => rfl)) pe_int (fun _ _ => rfl)) (pe_lst (pa_cons pe_str (pa_cons pe_str pa_nil))) (by rfl)) (pw_and1 (pt_cmpR op_eq (pe_ix ix_tup (pe_ix ix_list (pv 0) (pe_op op_sub (pv 2) pe_int) (fun _ _ => rfl)) pe_int (fun _ _ => rfl)) (pe_ix ix_tup (pe_ix ix_list (pv 0) (pv 2) (fun _ _ => rfl)) pe_int (fun _ _ => rfl)) (nomark _)))))) (pss_one (ps_ret pe_bl)) pss_nil))))
        (pss_one (ps_ret pe_bl))), ?_⟩
    obtain ⟨v, ws, i, b, r, rfl, hd, ⟨hl, ps, al, rfl, rfl⟩, k⟩ := h
    obtain ⟨a, xs, rfl, hq, all⟩ := dp_lst hd
    have lx := dpLen all
    have lps := al.len
    refine ⟨_, rfl, a, xs, rfl, .inl hq, _, rfl, by omega, by omega, ?_⟩
    refine for_it (walk_range (lo := 0) (n := ((xs.length : Nat) : Int).toNat)) (fun j σ H' => (∃ u, σ = [some (.ref a), some (.bl i), u]) ∧ Same H H' ∧ ((ps.take j).all fun q => q.1 && q.2) = true ∧ nbB (nbK i) (ws.take j) = false) ⟨⟨_, rfl⟩, Same.refl _, rfl, rfl⟩ (fun _ _ _ _ _ => trivial) (fun j x σ Ha H' hj e y => ?_) (fun σ H' e => ?_)
    · obtain ⟨⟨u, rfl⟩, s1, hps, hnb⟩ := e
      obtain ⟨rfl, rfl⟩ := y
      have hj' : j < ws.length := by omega
      obtain ⟨p, hp⟩ : ∃ p, ws[j]? = some p := ⟨_, List.getElem?_eq_getElem hj'⟩
      obtain ⟨pv, hpv, dp⟩ := dpAt all hp
      obtain ⟨q, hqq, pc⟩ := al.at hp
      have z0 : (0 : Int) + ((j : Nat) : Int) = ((j : Nat) : Int) := Int.zero_add _
      refine ⟨_, rfl, _, rfl, a, _, _, pv, rfl, rfl, s1.seq hq, by rw [z0]; exact atI_nat hpv, _, rfl, pv, p, i, q.1, q.2, rfl, dp_same s1 dp, pc, fun H2 s2 => ⟨_, rfl, ?_⟩⟩
      have a2 := s1.trans s2
      cases hb : (q.1 && q.2) with
      | false =>
        refine if_yes rfl ?_
        have z := k H2 a2
        have e : ((ps.all (·.1) && !nbB (nbK i) ws) && ps.all (·.2)) = false := by
          have := all_bad (List.mem_of_getElem? hqq) hb
          rw [← all_both, Bool.and_eq_false_iff] at this
          rcases this with h | h
          · rw [h]; rfl
          · rw [h, Bool.and_false]
        rw [e] at z
        exact z
      | true =>
        refine if_no rfl ?_
        rw [Bool.and_eq_true] at hb
        have pc' : PcR CRo (WsR CRo n false) (WsR CRo n true) i p true q.2 := by
          have e1 := hb.1
          have pc := pc
          rw [e1] at pc
          exact pc
        obtain ⟨y, lp, hy⟩ := pc_head2 pc
        subst hy
        obtain ⟨bb, z, rfl, q1⟩ := head_read (dp_same a2 dp)
        have snoc := nb_snoc (nbK i) (.tuple (.str y :: lp)) (ws.take j)
        rw [hnb, Bool.false_or] at snoc
        have ps' : ((ps.take (j + 1)).all fun q => q.1 && q.2) = true := by
          rw [take_snoc hqq, List.all_append, hps, List.all_cons, hb.1, hb.2]
          rfl
        have stay : ∀ H5, Same H H5 → nbB (nbK i) (ws.take (j + 1)) = false → (∃ u, [some (V.ref a), some (.bl i), some (V.int (0 + ((j : Nat) : Int)))] = [some (V.ref a), some (.bl i), u]) ∧ Same H H5 ∧ ((ps.take (j + 1)).all fun q => q.1 && q.2) = true ∧ nbB (nbK i) (ws.take (j + 1)) = false := fun H5 s5 h => ⟨⟨_, rfl⟩, s5, ps', h⟩
        refine ⟨_, rfl, _, _, rfl, rfl, _, rfl, ?_⟩
        by_cases j0 : j = 0
        · refine if_no (decide_eq_false (by omega)) (if_no rfl (stay _ a2 ?_))
          rw [take_snoc hp, snoc, j0]
          rfl
        have j1 : 0 < j := Nat.pos_of_ne_zero j0
        refine if_yes (decide_eq_true (by omega)) ?_
        obtain ⟨p', hp'⟩ : ∃ p', ws[j - 1]? = some p' := ⟨_, List.getElem?_eq_getElem (by omega)⟩
        obtain ⟨pv', hpv', dp'⟩ := dpAt all hp'
        obtain ⟨q', _, pc2⟩ := al.at hp'
        obtain ⟨y', lp', hy'⟩ := pc_head2 pc2
        subst hy'
        rw [last_take hj' j1, hp'] at snoc
        have snoc : nbB (nbK i) (ws.take j ++ [.tuple (.str y :: lp)]) = (decide (y' = nbK i) && decide (y = nbK i)) := snoc
        rw [← take_snoc hp] at snoc
        have hqj : atI xs (0 + ((j : Nat) : Int)) = some (.ref bb) := by rw [z0]; exact atI_nat hpv
        refine ⟨_, rfl, _, rfl, a, _, _, _, rfl, rfl, a2.seq hq, hqj, bb, _, 0, _, rfl, rfl, q1, atI_nat (j := 0) rfl, (by decide : 2 ≤ sizeLine), fun L nL => ?_⟩
        have s3 := a2.trans (same_upd (o := .lst [.str "bare", .str "plain"]) nL)
        have hL : (L2.upd H2 L (.lst [.str "bare", .str "plain"])) L = some (.lst [.str "bare", .str "plain"]) := upd_same
        have q1' := sqT_same (same_upd (o := .lst [.str "bare", .str "plain"]) nL) q1
        generalize L2.upd H2 L (.lst [.str "bare", .str "plain"]) = H3 at s3 hL q1' ⊢
        refine ⟨L, ([("bare" : Str), "plain"]).map V.str, rfl, .inl (SqL.of hL), rfl, by decide +kernel, _, rfl, ?_⟩
        rw [if_neg (by decide : ¬ false = true), inV_iff]
        by_cases hin : y ∈ ([("bare" : Str), "plain"])
        · have yk := head_nb pc' rfl hin
          refine if_yes (decide_eq_true hin) ?_
          obtain ⟨b2, z2, rfl, q2⟩ := head_read (dp_same s3 dp')
          have hj1 : atI xs (0 + ((j : Nat) : Int) - 1) = some (.ref b2) := by
            rw [show (0 : Int) + ((j : Nat) : Int) - 1 = ((j - 1 : Nat) : Int) by omega]
            exact atI_nat hpv'
          refine ⟨_, rfl, _, rfl, _, _, rfl, rfl, a, _, _, _, rfl, rfl, s3.seq hq, hj1, b2, _, 0, _, rfl, rfl, q2, atI_nat (j := 0) rfl, _, rfl, _, rfl, a, _, _, _, rfl, rfl, s3.seq hq, hqj, bb, _, 0, _, rfl, rfl, q1', atI_nat (j := 0) rfl, rfl, _, rfl, ?_⟩
          rw [dec_str]
          by_cases hyy : y' = y
          · refine if_yes (decide_eq_true hyy) ?_
            have zz := k H3 s3
            have e : nbB (nbK i) ws = true := nb_take (j := j + 1) (by rw [snoc, hyy, yk, decide_eq_true rfl]; rfl)
            rw [e, Bool.not_true, Bool.and_false, Bool.false_and] at zz
            exact zz
          · refine if_no (decide_eq_false hyy) (stay _ s3 ?_)
            rw [snoc, decide_eq_false (fun z => hyy (z.trans yk.symm)), Bool.false_and]
        · refine if_no (decide_eq_false hin) (if_no rfl (stay _ s3 ?_))
          have : ¬ y = nbK i := fun z => hin (by rcases nbK_in i with e | e <;> rw [z, e] <;> decide +kernel)
          rw [snoc, decide_eq_false this, Bool.and_false]
    · obtain ⟨⟨u, rfl⟩, s1, hps, hnb⟩ := e
      have em : ((xs.length : Nat) : Int).toNat = ws.length := by omega
      rw [em] at hps hnb
      rw [List.take_of_length_le (by omega)] at hps hnb
      have z := k H' s1
      rw [hnb, Bool.not_false, Bool.and_true, all_both, hps] at z
      exact z
theorem ok_Lri {fR fP : Addr} {dR dP : FuncData} (FR : Fun K "_law_right" "_law_right" sLri fR dR) (gR : mg "_law_right" = some (.ref fR)) (FP : Fun K "_law_right_piece" "_law_right_piece" sLrp fP dP) (gP : mg "_law_right_piece" = some (.ref fP)) (B : Blt mg)
    (hLrs : Has P w K mg base 16 "_law_right_sum" ["_law_node"] (spLrs K 13)) (hLnd : Has P w K mg base 2 "_law_named" ["_law_told"] spLnd) (hLm : Has P w K mg base 1 "_law_made_of" ["_law_told", "_law_some"] spLm) : ∀ n, n ≤ 10 → Has P w K mg base (17 + 2 * n) "_law_right" ["_law_pieces_here", "_law_inside"] (spLri K n)
  | 0, _ => by
    refine has_of FR gR (FR.binds (ps := ["_law_pieces_here", "_law_inside"]) fun _ _ _ _ _ _ us hl => match us, hl with | [_, _], _ => rfl) (FR.ok scLri (fun vs H Q E h => ?_) (fun cdv A outer s H vs Q E hr h => ?_))
    · obtain ⟨_, _, _, _, _, _, _, h, _⟩ := h
      exact h.elim
    · obtain ⟨_, _, _, _, _, _, _, h, _⟩ := h
      exact h.elim
  | n + 1, l => has_Lri (L := 17 + 2 * n + 1) (by omega) FR gR B (has_Lrp (L := 17 + 2 * n) (by omega) (by omega) FP gP B hLrs hLnd (ok_Lri FR gR FP gP B hLrs hLnd hLm n (by omega)) hLm)
theorem ok_Lbe {spD : Sp} (drw : DrwT spD) {f : Addr} {fd : FuncData} (F : Fun K "_law_bent" "_law_bent" sLbe f fd) (g : mg "_law_bent" = some (.ref f)) (B : Blt mg) (hLo : Has P w K mg base 4 "_law_odd" ["_law_state_here"] (spLo K)) (hDr : Has P w K mg base 1 "_law_draw" ["_law_state_here", "_law_many"] spD) : ∀ n, n ≤ 10 → Has P w K mg base (5 + n) "_law_bent" ["_law_state_here", "_law_pieces_here", "_law_inside"] (spBe K n)
  | 0, _ => by
    refine has_of F g (F.binds (ps := ["_law_state_here", "_law_pieces_here", "_law_inside"]) fun _ _ _ _ _ _ us hl => match us, hl with | [_, _, _], _ => rfl) (F.ok scLbe (fun vs H Q E h => ?_) (fun cdv A outer s H vs Q E hr h => ?_))
    · exact (show False from h).elim
    · exact (show False from h).elim
  | n + 1, l => has_Lbe (L := 5 + n) (by omega) (by omega) F g B hLo drw hDr (ok_Lbe drw F g B hLo hDr n (by omega))
end
end Qb
end PySem
namespace PySem
namespace Qb
open PySem.W PySem.Calls PyProof.Rows L2
/-- a def of the text called from one place that is known: its body need hold there alone -/
theorem run_at {P : Program} {w : World} {K : Frag} {mg : Str → Option Value} {base : Heap} {k : Nat} {x qual : Str} {st : Stmt} {f : Addr} {fd : FuncData} {N ps : List Str} {A : Around} {outer : List Env} {s : Shared} {H : Hp} {args : Args} {us : List Value} {vs : List V} {Q : VK}
    (F : Fun K x qual st f fd) (S : FnScope N ps (defScope st)) (hr : Room (k + 1) A) (e0 : Env0 P w K mg base A outer s H) (hb : BindsTo s fd args (ps.zip us)) (r : Vals vs us) (hl : vs.length = ps.length)
    (body : ∀ cdv, ∃ t, PSs (cxOf CX0 P w K mg base N qual (defScope st) f cdv A outer s H E0).nox (defBody st) t ∧ t { nx := fun _ H' => Q .non H', rt := Q } (L2.start N vs) H) :
    codeAny (model P w) A (.call (.ref f) args) (CR CX0 outer P w H s Q E0) s := by
  obtain ⟨oc, od, kV, doc, pm, an, cdv, ct, osl, rfl, lk, hcd⟩ := F.ex
  have here : K.In s.heap := e0.mod.kin.keeps fun b o z => (e0.bs b o z).1
  have room : s.heap.NoLimit := e0.mod.nolimit.keeps fun b o z => (e0.bs b o z).1
  refine codeAny_call_function hr.depth (here _ _ lk) rfl S.co S.gen rfl (codeRec_of here hcd) (hb _ _ _ _ ?_)
  refine wpAny_newFunctionEnv_cells S.kind (fun y hy => ?_) fun env he s1 hin => ?_
  · obtain ⟨n, v⟩ := y
    rcases S.par n (List.of_mem_zip hy).1 with z | z
    · exact .inl z
    · exact .inr ⟨z, cellsFrom_some _ _ _ (.inl z)⟩
  · subst he
    obtain ⟨t, ht, rd⟩ := body cdv
    have I : Inv (cxOf CX0 P w K mg base N qual (defScope st) f cdv A outer s H E0) [] (L2.start N vs) H s1 := inv_start S hr.hd e0 hl r hin
    refine ⟨room.keeps hin.toInCall.keep, codeAny_func (wpAny_mono (ht.nox.run [] s1 _ H _ I rd) (fun fl s2 hs => ?_) fun e s2 hs => hs)⟩
    have fin : ∀ {σ2 : L2.St} {H2 : Hp} {v : V} {u : Value}, Inv (cxOf CX0 P w K mg base N qual (defScope st) f cdv A outer s H E0) [] σ2 H2 s2 → RelV v u → Q v H2 → CE outer P w H s Q u s2 :=
      fun J rv q => ⟨_, _, J.os, J.bare, J.base, J.hok, rv, q⟩
    cases fl with
    | ret u =>
      obtain ⟨v, σ2, H2, J, rv, q⟩ := hs
      exact fin J rv q
    | next =>
      obtain ⟨σ2, H2, J, q⟩ := hs
      exact fin (v := .non) (u := .none) J rfl q
    | brk =>
      obtain ⟨_, _, _, z⟩ := hs
      exact (z : False).elim
    | cont =>
      obtain ⟨_, _, _, z⟩ := hs
      exact (z : False).elim
/-- the law is called over the script: what the body needs is laid out -/
theorem law_at {P : Program} {w : World} {K : Frag} {mg mb : Str → Option Value} {fa a : Addr} {s : Shared} {vs : List Value} {ns : List Int}
    (KX : K.In s.heap) (hns : s.heap.Ns mainGlobals mg) (hb : s.heap.Ns builtinsNs mb) (hbb : ∀ x : Str, x ≠ "__name__" → mb x = bootBuiltins x) (lim : s.heap.NoLimit) (hg : s.gens = #[])
    (ha : s.heap.get? a = some { cls := .type "list", data := .seq vs.toArray }) (hi : IntsAre vs ns) (hl : ns.length ≤ sizeLine)
    (run : ∀ (base : Heap) (H : Hp), K.In base → base.Ns mainGlobals mg → Env0 P w K mg base callerA [] s H → SqL K H a (ns.map V.int) →
      codeAny (model P w) callerA (.call (.ref fa) ⟨[.ref a], []⟩) (CR CX0 [] P w H s (fun v _ => v = .bl true) E0) s) :
    codeAny (model P w) callerA (.call (.ref fa) ⟨[.ref a], []⟩) (fun r s' => r = .ok (.ret (.bool true)) ∧ OldK s.heap s'.heap ∧ s'.os = s.os ∧ AllBare s'.gens) s := by
  have rel := vals_ints hi
  have many := hi.length
  -- the script is tracked, as a thing that is known, where it is none of the module's own
  obtain ⟨H, hH⟩ : ∃ H : Hp, ∀ b, H b = if b = a ∧ K.lookup a = none then some (.frz { cls := .type "list", data := .seq vs.toArray } (.lst (ns.map V.int))) else none := ⟨_, fun _ => rfl⟩
  have only : ∀ b u, H b = some u → b = a ∧ K.lookup a = none ∧ u = .frz { cls := .type "list", data := .seq vs.toArray } (.lst (ns.map V.int)) := fun b u z => by
    rw [hH] at z
    by_cases c : b = a ∧ K.lookup a = none
    · rw [if_pos c] at z
      exact ⟨c.1, c.2, (Option.some.inj z).symm⟩
    · rw [if_neg c] at z
      cases z
  have sq : SqL K H a (ns.map V.int) := by
    cases hk : K.lookup a with
    | none => exact .inl (.inr ⟨_, by rw [hH]; exact if_pos ⟨rfl, hk⟩⟩)
    | some o =>
      have e := KX a o hk
      rw [ha] at e
      cases e
      exact .inr ⟨_, vs.toArray, _, hk, rfl, rfl, rfl, by rw [List.size_toArray, many]; exact hl, by simpa using rel⟩
  have ok : HOk P w H s.heap := fun b u z => by
    obtain ⟨rfl, _, rfl⟩ := only b u z
    exact ⟨ha, by rw [List.length_map]; exact hl, vs, _, rel, ha⟩
  have kept : ∀ b o, s.heap.get? b = some o → H b = none → (hidT s.heap H).get? b = some o := fun b o z n => hidT_get z n
  have baseK : K.In (hidT s.heap H) := fun b o z => kept b o (KX b o z) (by
    cases q : H b with
    | none => rfl
    | some u =>
      obtain ⟨rfl, n, _⟩ := only b u q
      rw [n] at z
      cases z)
  have baseN : ∀ (b : Addr) (m : Str → Option Value), s.heap.Ns b m → (hidT s.heap H).Ns b m := fun b m ⟨o, es, ep, z, d, r⟩ => ⟨o, es, ep, kept b o z (by
    cases q : H b with
    | none => rfl
    | some u =>
      obtain ⟨rfl, _, _⟩ := only b u q
      rw [ha] at z
      cases z
      cases d), d, r⟩
  have env : Env0 P w K mg (hidT s.heap H) callerA [] s H := {
    frames := rfl
    mod := ⟨baseK, baseN _ _ hns, ⟨mb, baseN _ _ hb, hbb⟩, let ⟨m, z1, z2⟩ := lim; ⟨m, baseN _ _ z1, z2⟩⟩
    bs := fun b o z => of_hidT z
    bsz := Nat.le_of_eq (hidT_size _ _)
    funs := trivial
    frf := fun b z => nomatch z
    hok := ok
    bare := .of_eq hg }
  refine codeAny_mono (run _ H baseK (baseN _ _ hns) env sq) fun r s' z => ?_
  cases r with
  | error e => exact z.elim
  | ok fl =>
    cases fl with
    | ret u =>
      obtain ⟨v, H', h1, h2, h3, h4, h5, h6⟩ := z
      obtain rfl : v = .bl true := h6
      obtain rfl : u = Value.bool true := h5
      refine ⟨rfl, OldK.of_keep fun b o y => ?_, h1, h2⟩
      cases q : H b with
      | none => exact h3.keep b o y q (fun z => nomatch z) (fun z => nomatch z)
      | some t =>
        obtain ⟨rfl, _, rfl⟩ := only b t q
        have q2 := h3.frzs _ _ _ q
        obtain ⟨g1, _⟩ := h4 _ _ q2
        rw [ha] at y
        cases y
        exact g1
    | next => exact z.elim
    | brk => exact z.elim
    | cont => exact z.elim
/-! # repr of what can be shown -/
def Wd (K : Frag) (H : Hp) (v : V) (d : PyData) : Prop := Dp K H v d ∧ SeqAt.shaped d = true ∧ d.showable = true ∧ d.hasDict = false ∧ d.shown.length ≤ sizeLine
theorem call_reprD {X : Cx} (hg : X.A.guards = some []) (hu : X.A.units + 100 < cLine) : CallR X (.builtin "repr") (fun xs H Q => ∃ v d, xs = [v] ∧ Wd X.K H v d ∧ Q (.str d.shown) H) := by
  intro pins s σ H xs us Q I r h
  obtain ⟨v, d, rfl, hd, q⟩ := h
  obtain ⟨u, rfl, ru⟩ := vals1 r
  have ends : ∀ (h' : Heap) (t : Tok) (tk : Nat), (∀ b o, s.heap.get? b = some o → h'.get? b = some o) → EP X pins σ Q (.str d.shown t) { s with heap := h', toks := tk } :=
    fun h' t tk k => ⟨.str d.shown, H, I.kept (t' := tk) k, ⟨t, rfl⟩, q⟩
  have at_ref : ∀ (a : Addr) (as : List Addr), u = .ref a → Reads s.heap u d as → d.showable = true → (d.hasDict = true → sysModules ∉ as) → d.depth ≤ 64 → d.shown.length ≤ sizeLine →
      wpAny (model X.prog X.w) X.A (call (.builtin "repr") [u]) (EP X pins σ Q) X.xe s := by
    intro a as e r1 h3 h4 h6 h5
    subst e
    exact repr_of_reads' r1 h3 h4 hg (by omega) (fun _ _ z => z) ends h5
  obtain ⟨h1, h2, h3, h4, h5⟩ := hd
  obtain ⟨as, r1⟩ := Dp.reads I d v u h1 ru
  have h6 := SeqAt.depth_of_shaped h2
  have far : d.hasDict = true → sysModules ∉ as := fun z => by
    rw [h4] at z
    cases z
  cases h1 with
  | non =>
    obtain rfl : u = Value.none := ru
    exact P.repr_of_none (ends s.heap _ _ fun _ _ z => z)
  | bl b =>
    obtain rfl : u = Value.bool b := ru
    exact P.repr_of_bool (ends s.heap _ _ fun _ _ z => z)
  | int i =>
    obtain ⟨t, rfl⟩ := ru
    exact P.repr_of_int (by simpa [PyData.showable] using h3) (ends s.heap _ _ fun _ _ z => z)
  | str x =>
    obtain ⟨t, rfl⟩ := ru
    exact P.repr_of_str (ends s.heap _ _ fun _ _ z => z) h5
  | lst ha hxs => exact at_ref _ as ru r1 h3 far h6 h5
  | tup ha hxs => exact at_ref _ as ru r1 h3 far h6 h5
/-! # a def that is called where nothing is being shown -/
structure FnG (P : Program) (w : World) (K : Frag) (mg : Str → Option Value) (base : Heap) (k : Nat) (f : Addr) (fd : FuncData) (ps : List Str) (sp : Sp) : Prop where
  len : ∀ (vs : List V) (H : Hp) (Q : VK) (E : XK), sp vs H Q E → vs.length = ps.length
  run : ∀ (A : Around) (outer : List Env) (s : Shared) (H : Hp) (args : Args) (us : List Value) (vs : List V) (Q : VK), A.guards = some [] → Room k A → Env0 P w K mg base A outer s H → BindsTo s fd args (ps.zip us) → Vals vs us → sp vs H Q E0 →
    codeAny (model P w) A (.call (.ref f) args) (CR CX0 outer P w H s Q E0) s
section
variable {X : Cx} {k : Nat} {f : Addr} {fd : FuncData} {ps : List Str} {sp : Sp}
theorem run_fnG {pins : List (Addr × Obj)} {σ : L2.St} {H : Hp} {s : Shared} {Q : VK} {us : List Value} {vs : List V} (F : FnG X.prog X.w X.K X.mg X.base k f fd ps sp) (hg : X.A.guards = some []) (hr : Room k X.A) (hb : L2.Binds X.K fd ps []) (I : L2.Inv X pins σ H s) (r : Vals vs us) (h : sp vs H Q E0) :
    wpAny (model X.prog X.w) X.A (call (.ref f) us) (EP X pins σ Q) X.xe s := by
  have hl : us.length = ps.length := by rw [← r.length]; exact F.len _ _ _ _ h
  have hb2 := hb s us I.kIn (by rw [List.append_nil]; exact hl)
  rw [List.append_nil] at hb2
  refine wpAny_call (codeAny_mono (F.run X.A X.stack s H { pos := us } us vs Q hg hr I.env0 hb2 r h) fun r s' hq => ?_)
  cases r with
  | error e => exact hq.elim
  | ok fl =>
    cases fl with
    | ret u => exact I.after hq
    | next => exact hq.elim
    | brk => exact hq.elim
    | cont => exact hq.elim
theorem pe_callG {x : Str} {p pos : Pos} {e : Expr} {es : List Expr} {t : TA} (F : FnG X.prog X.w X.K X.mg X.base k f fd ps sp) (hgd : X.A.guards = some []) (hr : Room k X.A) (hg : Gl X x) (hm : X.mg x = some (.ref f)) (hk : PySem.W.keepIn X.K (.ref f) = true) (hb : L2.Binds X.K fd ps []) (ha : PA X (e :: es) t)
    (hdb : (x == ("__debug__" : Str)) = false := by decide) (he : starEach (e :: es) X.env = (false, eval e X.env) :: starEach es X.env := by rfl) (hpl : ((backTo pos (starEach es X.env)).any (·.1)) = false := by rfl) :
    PE X (.Call (.Name x p) (e :: es) [] pos) (fun σ H Q => t σ H fun vs H1 => sp vs H1 Q E0) := by
  refine ⟨fun pins s σ H Q I h => wpAny_Call_Name_kw (ld_glob I hg hm (callWith_K I.ok.mod.kin hk (thn (ha.run pos pins s σ H (fun vs H1 => sp vs H1 Q E0) I h) fun us s1 z => ?_) he hpl) hdb)⟩
  obtain ⟨vs, H1, I1, r, q⟩ := z
  exact ⟨I1.kIn, run_fnG F hgd hr hb I1 r q⟩
end
end Qb
end PySem
namespace PySem
namespace Qb
open PySem.W PySem.Calls PyProof.Rows L2
/-! # how many scripts and commands stand in a word -/
def sB : Nat → Nat
  | 0 => 1
  | n + 1 => (n + 3) * sB n
theorem sB_pos (n : Nat) : 1 ≤ sB n := by
  induction n with
  | zero => exact Nat.le_refl _
  | succ n ih =>
    show 1 ≤ (n + 3) * sB n
    exact Nat.mul_pos (by omega) ih
theorem flat_le {α β : Type} (f : α → List β) (m : Nat) : ∀ (l : List α), (∀ x ∈ l, (f x).length ≤ m) → (l.flatMap f).length ≤ l.length * m
  | [], _ => Nat.zero_le _
  | x :: l, h => by
    rw [List.flatMap_cons, List.length_append, List.length_cons, Nat.add_mul]
    have := flat_le f m l fun y mm => h y (.tail _ mm)
    have := h x (.head _)
    omega
theorem scr_le : ∀ (n : Nat) {i : Bool} {ws : List PyData} {b r : Bool}, WsR CRo n i ws b r → (scr n ws).length ≤ sB n ∧ (cms n ws).length ≤ sB n
  | 0, _, _, _, _, h => h.elim
  | n + 1, i, ws, b, r, ⟨hl, ps, al, _, _⟩ => by
    have pos := sB_pos n
    have one : ∀ p ∈ ws, (scrP (scr n) p).length ≤ sB n ∧ (cmP n p).length ≤ sB n := fun p m => by
      obtain ⟨q, _, h⟩ := al.mem m
      rcases h with ⟨kk, x, rfl, _⟩ | ⟨w', bw, rw', rfl, hw, _⟩ | ⟨x, d, bd, rfl, hx', hd', _⟩ | ⟨t, rfl, _⟩ | ⟨cs, bs, rfl, hcl, _⟩
      · exact ⟨Nat.zero_le _, Nat.zero_le _⟩
      · have e : scrP (scr n) (.tuple [.str "wide", .list w']) = scr n w' := by rw [scr_two, if_neg (by decide +kernel), if_pos rfl]
        rw [cmP_deep e, e]
        exact scr_le n hw
      · rcases hd' with ⟨rfl, _, _⟩ | ⟨rfl, _, _⟩ | ⟨kk, c, w', bw, rw', rfl, hkk, hw, _⟩ | ⟨mk, w', bw, rw', rfl, _, hw, _⟩
        · exact ⟨Nat.zero_le _, Nat.zero_le _⟩
        · exact ⟨Nat.zero_le _, Nat.zero_le _⟩
        · by_cases c5 : kk ∈ dd5
          · have e : scrP (scr n) (.tuple [.str "name", .str x, .tuple [.str kk, .bool c, .list w']]) = scr n w' := by rw [scr_three, if_pos rfl, if_pos c5]
            rw [cmP_deep e, e]
            exact scr_le n hw
          · have e : scrP (scr n) (.tuple [.str "name", .str x, .tuple [.str kk, .bool c, .list w']]) = [] := by rw [scr_three, if_pos rfl, if_neg c5]
            unfold cmP
            rw [e]
            exact ⟨Nat.zero_le _, Nat.zero_le _⟩
        · have e : scrP (scr n) (.tuple [.str "name", .str x, .tuple [.str "cut", .str mk, .list w']]) = scr n w' := by rw [scr_three, if_pos rfl, if_pos (by decide +kernel)]
          rw [cmP_deep e, e]
          exact scr_le n hw
      · have e : scrP (scr n) (.tuple [.str "sum", t.d]) = [] := by
          cases ht : t.d with
          | list l => rw [scr_two, if_neg (by decide +kernel), if_neg (by decide +kernel)]
          | _ => rfl
        unfold cmP
        rw [e]
        exact ⟨Nat.zero_le _, Nat.zero_le _⟩
      · have e : scrP (scr n) (.tuple [.str "run", .list cs]) = [.list cs] := by rw [scr_two, if_pos rfl]
        unfold cmP
        rw [e]
        refine ⟨pos, ?_⟩
        show (cs ++ []).length ≤ _
        rw [List.append_nil]
        omega
    have hl' : ws.length * sB n ≤ (n + 3) * sB n := Nat.mul_le_mul_right _ hl
    refine ⟨Nat.le_trans (flat_le (scrP (scr n)) (sB n) ws fun p m => (one p m).1) hl', ?_⟩
    rw [cms_succ]
    exact Nat.le_trans (flat_le (cmP n) (sB n) ws fun p m => (one p m).2) hl'
theorem scr_5 {i : Bool} {ws : List PyData} {b r : Bool} (h : WsR CRo 5 i ws b r) : (scr 5 ws).length ≤ 5000 ∧ (cms 5 ws).length ≤ 5000 := by
  have z := scr_le 5 h
  have e : sB 5 = 2520 := by decide
  rw [e] at z
  exact ⟨by omega, by omega⟩
def lawSp (K : Frag) : Sp := fun vs H Q _ => ∃ (a : Addr) (ns : List Int), vs = [.ref a] ∧ SqL K H a (ns.map V.int) ∧ ns.length ≤ 63 ∧ ∀ H', Q (.bl true) H'
section
variable {P : Program} {w : World} {K : Frag} {mg : Str → Option Value} {base : Heap}
abbrev sLw : Stmt := top 83
abbrev nLw : List Str := ["_law_script_here", "_law_state_here", "_law_bends", "_law_passed", "_law_kept", "_law_found"]
theorem scLw : FnScope nLw ["_law_script_here"] (defScope sLw) := ⟨rfl, rfl, rfl, by decide +kernel, rfl, by decide +kernel, by decide +kernel⟩
theorem ok_Lw {f : Addr} {fd : FuncData} (F : Fun K "law" "law" sLw f fd) (B : Blt mg) (hSta : Has P w K mg base 1 "_law_state" ["_law_script_here"] (spState K)) {spD : Sp} (drw : DrwT spD) (hDr : Has P w K mg base 1 "_law_draw" ["_law_state_here", "_law_many"] spD)
    {spP : Sp} (psw : PswT K 4 spP) (hLps : Has P w K mg base 21 "_law_pieces" ["_law_state_here", "_law_deep", "_law_inner", "_law_inside", "_law_least"] spP) (hIw : HasK P w K mg base 42 "is_word" ["tree"] (spIw K 5)) (hLbe : Has P w K mg base 9 "_law_bent" ["_law_state_here", "_law_pieces_here", "_law_inside"] (spBe K 4)) (hLri : Has P w K mg base 27 "_law_right" ["_law_pieces_here", "_law_inside"] (spLri K 5)) :
    FnG P w K mg base 43 f fd ["_law_script_here"] (lawSp K) := by
  obtain ⟨fSta, dSta, gSta, kSta, bSta, GSta⟩ := hSta
  obtain ⟨fDr, dDr, gDr, kDr, bDr, GDr⟩ := hDr
  obtain ⟨fLps, dLps, gLps, kLps, bLps, GLps⟩ := hLps
  obtain ⟨fIw, dIw, gIw, kIw, bIw, cIw, GIw⟩ := hIw
  obtain ⟨fLbe, dLbe, gLbe, kLbe, bLbe, GLbe⟩ := hLbe
  obtain ⟨fLri, dLri, gLri, kLri, bLri, GLri⟩ := hLri
  refine ⟨fun vs H Q E h => ?_, fun A outer s H args us vs Q hgd0 hr0 e0 hb r h => ?_⟩
  · obtain ⟨a, ns, rfl, _⟩ := h
    rfl
  refine run_at (k := 42) F scLw hr0 e0 hb r (by obtain ⟨a, ns, rfl, _⟩ := h; rfl) fun cdv => ?_
  have hr : Room 42 (A.deeper (envOfC "law" (defScope sLw) s.heap.objs.size f cdv)) := hr0.deeper _
  have hgd : (A.deeper (envOfC "law" (defScope sLw) s.heap.objs.size f cdv)).guards = some [] := hgd0
  have un := hr.un
  have hu100 : (A.deeper (envOfC "law" (defScope sLw) s.heap.objs.size f cdv)).units + 100 < cLine := by omega
  refine ⟨_, (pss_cons (ps_set (i := 1) scLw.nd rfl (.inl rfl) (pe_call GSta (hr.mono (by decide)) rfl gSta kSta bSta .nil pass0 (pa_cons (pv 0) pa_nil)))
        (pss_cons (ps_set (i := 2) scLw.nd rfl (.inl rfl) (pe_cmpR op_gt (pe_call GDr (hr.mono (by decide)) rfl gDr kDr bDr .nil pass0 (pa_cons (pv 1) (pa_cons pe_int pa_nil))) pe_int (nomark _)))
        (pss_cons (ps_set (i := 3) scLw.nd rfl (.inl rfl) (pe_call GLps (hr.mono (by decide)) rfl gLps kLps bLps .nil pass0 (pa_cons (pv 1) (pa_cons pe_int (pa_cons pe_int (pa_cons pe_bl (pa_cons pe_int pa_nil)))))))
        (pss_cons (ps_if (PW.pt (pw_or (pt_cmpR L2.op_notBl (pe_callKw GIw (hr.mono (by decide)) rfl gIw kIw cIw pass0 (pk_cons (pv 3) pk_nil)) pe_bl (nomark _)) (pw_or1 (pt_cmpR L2.op_notBl (pe_call GIw (hr.mono (by decide)) rfl gIw kIw bIw .nil pass0 (pa_cons (pe_lst pa_nil) pa_nil)) pe_bl (nomark _))))) (pss_one (ps_ret pe_bl)) pss_nil)
        (pss_cons (ps_weak (ps_if (pt_val (pv 2)) (pss_one (ps_set (i := 3) scLw.nd rfl (.inl rfl) (pe_call GLbe (hr.mono (by decide)) rfl gLbe kLbe bLbe .nil pass0 (pa_cons (pv 1) (pa_cons (pv 3) (pa_cons pe_bl pa_nil)))))) pss_nil))
        (pss_cons (ps_set (i := 4) scLw.nd rfl (.inl rfl) (pe_callB (call_reprD hgd hu100) (by rfl) B.repr (by decide +kernel) (pa_cons (pv 3) pa_nil)))
        (pss_cons (ps_set (i := 5) scLw.nd rfl (.inl rfl) (pe_call GIw (hr.mono (by decide)) rfl gIw kIw bIw .nil pass0 (pa_cons (pv 3) pa_nil)))
        (pss_one (ps_ret (pe_and (pe_callB call_isi (by rfl) B.isi (by decide +kernel) (pa_cons (pv 5) (pa_cons (pe_bltn (v := .ty "bool") (by rfl) B.bool (by decide +kernel) rfl) pa_nil))) (pe_and (pe_cmpR op_eq (pv 5) (pe_call GLri (hr.mono (by decide)) rfl gLri kLri bLri .nil pass0 (pa_cons (pv 3) (pa_cons pe_bl pa_nil))) (nomark _)) (pe_one (pe_cmpR op_eq (pe_callB (call_reprD hgd hu100) (by rfl) B.repr (by decide +kernel) (pa_cons (pv 3) pa_nil)) (pv 4) (nomark _)))))))))))))), ?_⟩
  obtain ⟨a, ns, rfl, hS, hl, k⟩ := h
  refine ⟨_, rfl, a, ns, rfl, hS, hl, fun H1 S R rs T1 nS nR s1 => ?_⟩
  refine ⟨_, rfl, drw _ _ _ 0 _ 4 _ _ ⟨rs, 0, T1, Nat.le_refl _⟩ (by decide) (by decide) (by decide) fun H2 r hr2 T2 u2 _ => ⟨_, _, rfl, rfl, ?_⟩⟩
  refine ⟨_, rfl, psw [] S R H2 1 _ 2 false 1 _ _ _ rfl (by decide) (by decide) (by decide) T2 (fun b m => by cases m) fun H3 v ws bu3 T3 u3 dv wr lw lw3 => ?_⟩
  have dv3 : Dp K (U S R H3) v (.list ws) := dp_same UL_back dv
  have dvB : Dp K H3 v (.list ws) := dp_same U_back dv3
  have wr5 : WsR CRo 5 false ws true true := ws_mono 4 wr
  have sh3 : SeqAt.shaped (.list ws) = true := sh_ok (ws_wd wr5).sh (by decide)
  obtain ⟨q1, q2⟩ := scr_5 wr5
  have ne : ws.isEmpty = false := by
    cases ws with
    | nil => exact absurd lw (by decide)
    | cons _ _ => rfl
  refine ⟨_, rfl, v, ws, true, true, rfl, dvB, sh3, .inr wr5, q1, q2, fun H4 s4 => ⟨_, _, rfl, rfl, _, rfl, if_no (by rw [ne]; rfl) ?_⟩⟩
  refine ⟨(by decide : 0 ≤ sizeLine), fun p np => ⟨.ref p, [], true, true, rfl, .lst (SqL.of upd_same) .nil, nil_sh, .inl rfl, Nat.zero_le _, Nat.zero_le _, fun H5 s5 => ⟨_, _, rfl, rfl, _, rfl, if_no rfl ?_⟩⟩⟩
  have s35 := (s4.trans (same_upd (o := .lst []) np)).trans s5
  have T5 := T3.same s35
  have dv5 := dp_same (U_same s35) dv3
  refine ⟨fun σ' H' => ∃ (v' : V) (ws' : List PyData) (b' r' bd : Bool), σ' = [some (.ref a), some (.ref S), some (.bl bd), some v', none, none] ∧ Dp K H' v' (.list ws') ∧ WsR CRo 5 false ws' b' r' ∧ 1 ≤ ws'.length, ?_, ?_⟩
  · rintro σ' H' ⟨v', ws', b', r', bd, rfl, dv', wr', l1'⟩
    have rp := ws_wd wr'
    have wd : ∀ H2, Same H' H2 → Wd K H2 v' (.list ws') := fun H2 t2 => ⟨dp_same t2 dv', sh_ok rp.sh (by decide), rp.sw, rp.nd, by rw [len_cs, sizeLine_eq]; have := rp.len; omega⟩
    have ne' : ws'.isEmpty = false := by
      cases ws' with
      | nil => exact absurd l1' (by decide)
      | cons _ _ => rfl
    obtain ⟨p1, p2⟩ := scr_5 wr'
    refine ⟨_, rfl, v', .list ws', rfl, wd _ (Same.refl _), ?_⟩
    refine ⟨_, rfl, v', ws', b', r', rfl, dv', sh_ok rp.sh (by decide), .inr wr', p1, p2, fun H6 s6 => ?_⟩
    have fe : (!ws'.isEmpty && (b' && r')) = (b' && r') := by rw [ne', Bool.not_false, Bool.true_and]
    refine ⟨_, rfl, .bl (!ws'.isEmpty && (b' && r')), .ty "bool", .type "bool", .type "bool", true, rfl, .ty _, .base (.bl _), rfl, _, rfl, if_yes rfl ?_⟩
    refine ⟨_, rfl, _, rfl, v', ws', false, b', r', rfl, dp_same s6 dv', wr', fun H7 s7 => ⟨rfl, _, rfl, if_yes (by rw [fe]; exact decide_eq_true rfl) ?_⟩⟩
    exact ⟨_, rfl, v', .list ws', rfl, wd _ (s6.trans s7), _, rfl, rfl, by rw [decide_eq_true rfl]; exact k _⟩
  · have dec : ∀ bd : Bool, bd = decide ((0 : Int) < ((r : Nat) : Int)) → True := fun _ _ => trivial
    refine ⟨_, rfl, _, rfl, if_by (fun e => ?_) (fun e => ?_)⟩
    · refine ⟨_, rfl, _, rfl, S, R, _, bu3, v, ws, false, true, true, rfl, ?_, T5, dv5, wr, fun H6 v' ws' b' r' T6 u6 dv' wr' l1' => ⟨v', ws', b', r', _, rfl, dp_same U_back dv', wr', l1'⟩⟩
      decide
    · exact ⟨v, ws, true, true, _, rfl, dp_same U_back dv5, wr5, lw⟩
end
end Qb
end PySem
namespace PySem
namespace Qb
open PySem.W PySem.Calls PyProof.Rows L2
theorem glob_mk {K : Frag} {mg : Str → Option Value} {h : Heap} {x c d : Str} {t : Tok} (X : K.In h) (G : h.Ns mainGlobals mg) (a : nsIn K mainGlobals x = some (some (.str c t))) (e : c = d) : ∃ t, mg x = some (.str d t) := ⟨t, e ▸ mg_of X G a⟩
theorem tup_mk {K : Frag} {mg : Str → Option Value} {h : Heap} {x : Str} {p : Addr} {dd : Option Addr} {its : Array Value} {n : Nat} {sl : Array (Option Value)} {ws : List Str}
    (X : K.In h) (G : h.Ns mainGlobals mg) (a : nsIn K mainGlobals x = some (some (.ref p))) (l : K.lookup p = some ⟨.type "tuple", dd, .seq its n, sl⟩) (z : its.size ≤ 1000) (v : Vals (ws.map V.str) its.toList) :
    ∃ p, mg x = some (.ref p) ∧ ∀ H, SqT K H p (ws.map V.str) :=
  ⟨p, mg_of X G a, fun H => .inr ⟨_, its, n, l, rfl, rfl, Nat.le_trans z (by decide), v⟩⟩
/-- a written dict of texts: its entries -/
inductive EntD (w : World) : List DictEntry → List (Str × V) → Prop where
  | nil : EntD w [] []
  | cons {h : Int} {x : Str} {t : Tok} {u : Value} {v : V} {es : List DictEntry} {ps : List (Str × V)} (hk : h = PyData.keyHash w.params x) (hv : RelV v u) (r : EntD w es ps) : EntD w (⟨h, .str x t, u⟩ :: es) ((x, v) :: ps)
theorem EntD.lit {w : World} : ∀ {es : List DictEntry} {ps : List (Str × V)}, EntD w es ps → KeysLit w.params es
  | _, _, .nil => trivial
  | _, _, .cons hk _ r => ⟨⟨_, _, rfl, hk⟩, r.lit⟩
theorem EntD.none_ref {w : World} : ∀ {es : List DictEntry} {ps : List (Str × V)}, EntD w es ps → es.any (·.refKey) = false
  | _, _, .nil => rfl
  | _, _, .cons _ _ r => by
    rw [List.any_cons, r.none_ref]
    rfl
theorem EntD.find {w : World} (s : Str) : ∀ {es : List DictEntry} {ps : List (Str × V)}, EntD w es ps → (ps.lookup s = none → es.find? (·.key.isStr s) = none) ∧ (∀ v, ps.lookup s = some v → ∃ e, es.find? (·.key.isStr s) = some e ∧ RelV v e.val)
  | _, _, .nil => ⟨fun _ => rfl, fun v z => by cases z⟩
  | _, _, @EntD.cons _ h x t u v es ps hk hv r => by
    have e1 : ((⟨h, .str x t, u⟩ : DictEntry).key.isStr s) = (x == s) := rfl
    rw [List.find?_cons, e1, List.lookup_cons]
    by_cases c : s = x
    · subst c
      simp only [beq_self_eq_true]
      refine ⟨(fun z => by cases z), (fun v' z => ⟨_, rfl, ?_⟩)⟩
      cases z
      exact hv
    · rw [beq_eq_false_iff_ne.mpr c, beq_eq_false_iff_ne.mpr (Ne.symm c)]
      exact r.find s
theorem dict_mk {K : Frag} {w : World} {mg : Str → Option Value} {h : Heap} {d : Addr} {es : Array DictEntry} {n : Nat} {ps : List (Str × V)} {x : Str}
    (X : K.In h) (G : h.Ns mainGlobals mg) (a : nsIn K mainGlobals x = some (some (.ref d))) (l : K.lookup d = some ⟨.type "dict", none, .dict es n, #[]⟩) (e : EntD w es.toList ps) (low : (d == sysModules) = false) :
    mg x = some (.ref d) ∧ KDict K w d es n ∧ ∀ s, (ps.lookup s = none → PySem.W.nsIn K d s = some none) ∧ (∀ v, ps.lookup s = some v → ∃ u, PySem.W.nsIn K d s = some (some u) ∧ RelV v u) := by
  refine ⟨mg_of X G a, ⟨l, e.lit, low⟩, fun s => ?_⟩
  have en : PySem.W.nsIn K d s = (match es.toList.find? (·.key.isStr s) with | some e => some (some e.val) | none => if es.toList.any (·.refKey) then none else some none) := by
    unfold PySem.W.nsIn
    rw [l]
    rfl
  obtain ⟨f1, f2⟩ := e.find s
  refine ⟨fun z => ?_, fun v z => ?_⟩
  · rw [en, f1 z, e.none_ref]
    rfl
  · obtain ⟨e', h1, h2⟩ := f2 v z
    rw [en, h1]
    exact ⟨_, rfl, h2⟩
def rkP : List (Str × V) := [("||", .int 2), ("&&", .int 3), ("==", .int 4), ("!=", .int 4), ("<", .int 5), ("<=", .int 5), (">", .int 5), (">=", .int 5), ("+", .int 6), ("-", .int 6), ("*", .int 7), ("/", .int 7), ("^", .int 7)]
theorem lookup_map (s : Str) : ∀ (l : List (Str × Nat)), (l.map fun p => (p.1, V.int (p.2 : Nat))).lookup s = (l.lookup s).map fun n => V.int (n : Nat)
  | [] => rfl
  | (x, n) :: l => by
    rw [List.map_cons, List.lookup_cons, List.lookup_cons]
    cases (s == x) with
    | true => rfl
    | false => exact lookup_map s l
theorem rks_mk {K : Frag} {w : World} {mg : Str → Option Value} {h : Heap} {d : Addr} {es : Array DictEntry} {n : Nat}
    (X : K.In h) (G : h.Ns mainGlobals mg) (a : nsIn K mainGlobals "RANKS" = some (some (.ref d))) (l : K.lookup d = some ⟨.type "dict", none, .dict es n, #[]⟩) (e : EntD w es.toList rkP) (low : (d == sysModules) = false) :
    ∃ (d : Addr) (es : Array DictEntry) (n : Nat), mg "RANKS" = some (.ref d) ∧ KDict K w d es n ∧ ∀ s : Str, (isOp s = false → PySem.W.nsIn K d s = some none) ∧ (isOp s = true → ∃ t, PySem.W.nsIn K d s = some (some (.int (rk s : Nat) t))) := by
  obtain ⟨h1, h2, h3⟩ := dict_mk X G a l e low
  have er : rkP = rks.map fun p => (p.1, V.int (p.2 : Nat)) := rfl
  refine ⟨d, es, n, h1, h2, fun s => ?_⟩
  obtain ⟨f1, f2⟩ := h3 s
  rw [er, lookup_map] at f1 f2
  refine ⟨fun z => f1 ?_, fun z => ?_⟩
  · unfold isOp at z
    cases q : rks.lookup s with
    | none => rfl
    | some n => rw [q] at z; cases z
  · unfold isOp at z
    obtain ⟨m, hm⟩ := Option.isSome_iff_exists.mp z
    rw [hm] at f2
    obtain ⟨u, h4, t, rfl⟩ := f2 _ rfl
    refine ⟨t, ?_⟩
    rw [h4]
    unfold rk
    rw [hm]
    rfl
/-- the law holds, by what the text's top has left -/
theorem law_holds {P : Program} {w : World} {K : Frag} {mg mb : Str → Option Value} {s : Shared} {fa a : Addr} {vs : List Value} {ns : List Int} {f0 f1 f2 f3 f4 f5 f6 f7 f8 f9 f10 f11 f12 f13 f14 f15 f16 f17 f18 f19 f20 f21 f22 f23 f24 f25 f26 f27 f28 f29 f30 f31 f32 f33 f34 f35 f36 f37 f38 f39 f40 f41 f42 f43 f44 f45 f46 f47 f48 : Addr} {d0 d1 d2 d3 d4 d5 d6 d7 d8 d9 d10 d11 d12 d13 d14 d15 d16 d17 d18 d19 d20 d21 d22 d23 d24 d25 d26 d27 d28 d29 d30 d31 d32 d33 d34 d35 d36 d37 d38 d39 d40 d41 d42 d43 d44 d45 d46 d47 d48 : FuncData}
    (KX : K.In s.heap) (hns : s.heap.Ns mainGlobals mg) (hb : s.heap.Ns builtinsNs mb) (hbb : ∀ x : Str, x ≠ "__name__" → mb x = bootBuiltins x) (lim : s.heap.NoLimit) (hg : s.gens = #[])
    (ha : s.heap.get? a = some { cls := .type "list", data := .seq vs.toArray }) (hi : IntsAre vs ns) (hl : ns.length ≤ 63)
    (W : Wrt K w mg) (B : Blt mg)
    (F0 : Fun K "name_length" "name_length" sNl f0 d0) (g0 : mg "name_length" = some (.ref f0))
    (F1 : Fun K "is_name" "is_name" sNn f1 d1) (g1 : mg "is_name" = some (.ref f1))
    (F2 : Fun K "is_place" "is_place" sIp f2 d2) (g2 : mg "is_place" = some (.ref f2))
    (F3 : Fun K "is_bare" "is_bare" sIb f3 d3) (g3 : mg "is_bare" = some (.ref f3))
    (F4 : Fun K "begins_set" "begins_set" sBs f4 d4) (g4 : mg "begins_set" = some (.ref f4))
    (F5 : Fun K "is_sum" "is_sum" sIs f5 d5) (g5 : mg "is_sum" = some (.ref f5))
    (F6 : Fun K "are_pieces" "are_pieces" sAp f6 d6) (g6 : mg "are_pieces" = some (.ref f6))
    (F7 : Fun K "are_wide" "are_wide" sAw f7 d7) (g7 : mg "are_wide" = some (.ref f7))
    (F8 : Fun K "is_full_word" "is_full_word" sFw f8 d8) (g8 : mg "is_full_word" = some (.ref f8))
    (F9 : Fun K "is_piece" "is_piece" sPc f9 d9) (g9 : mg "is_piece" = some (.ref f9))
    (F10 : Fun K "is_wide_piece" "is_wide_piece" sWp f10 d10) (g10 : mg "is_wide_piece" = some (.ref f10))
    (F11 : Fun K "is_dollar" "is_dollar" sDl f11 d11) (g11 : mg "is_dollar" = some (.ref f11))
    (F12 : Fun K "is_deed_on" "is_deed_on" sDd f12 d12) (g12 : mg "is_deed_on" = some (.ref f12))
    (F13 : Fun K "is_shown_as_size" "is_shown_as_size" sSz f13 d13) (g13 : mg "is_shown_as_size" = some (.ref f13))
    (F14 : Fun K "has_neighbours" "has_neighbours" sHn f14 d14) (g14 : mg "has_neighbours" = some (.ref f14))
    (F15 : Fun K "is_command" "is_command" sCm f15 d15) (g15 : mg "is_command" = some (.ref f15))
    (F16 : Fun K "is_do" "is_do" sDo f16 d16) (g16 : mg "is_do" = some (.ref f16))
    (F17 : Fun K "is_first_word" "is_first_word" sFi f17 d17) (g17 : mg "is_first_word" = some (.ref f17))
    (F18 : Fun K "is_key_word" "is_key_word" sKw f18 d18) (g18 : mg "is_key_word" = some (.ref f18))
    (F19 : Fun K "are_words" "are_words" sAws f19 d19) (g19 : mg "are_words" = some (.ref f19))
    (F20 : Fun K "are_turns" "are_turns" sAt f20 d20) (g20 : mg "are_turns" = some (.ref f20))
    (F21 : Fun K "parts_of" "parts_of" sPo f21 d21) (g21 : mg "parts_of" = some (.ref f21))
    (F22 : Fun K "all_at" "all_at" sAa f22 d22) (g22 : mg "all_at" = some (.ref f22))
    (F23 : Fun K "turn_words" "turn_words" sTw f23 d23) (g23 : mg "turn_words" = some (.ref f23))
    (F24 : Fun K "scripts_in_word" "scripts_in_word" sSw f24 d24) (g24 : mg "scripts_in_word" = some (.ref f24))
    (F25 : Fun K "commands_in_word" "commands_in_word" sCiw f25 d25) (g25 : mg "commands_in_word" = some (.ref f25))
    (F26 : Fun K "commands_within" "commands_within" sCin f26 d26) (g26 : mg "commands_within" = some (.ref f26))
    (F27 : Fun K "is_word" "is_word" sIw f27 d27) (g27 : mg "is_word" = some (.ref f27))
    (F28 : Fun K "first_wrong_in" "first_wrong_in" sFwi f28 d28) (g28 : mg "first_wrong_in" = some (.ref f28))
    (F29 : Fun K "_law_state" "_law_state" sState f29 d29) (g29 : mg "_law_state" = some (.ref f29))
    (F30 : Fun K "_law_draw" "_law_draw" sDraw f30 d30) (g30 : mg "_law_draw" = some (.ref f30))
    (F31 : Fun K "_law_signs" "_law_signs" sSig f31 d31) (g31 : mg "_law_signs" = some (.ref f31))
    (F32 : Fun K "_law_any" "_law_any" sAn f32 d32) (g32 : mg "_law_any" = some (.ref f32))
    (F33 : Fun K "_law_name" "_law_name" sNm f33 d33) (g33 : mg "_law_name" = some (.ref f33))
    (F34 : Fun K "_law_place" "_law_place" sLp f34 d34) (g34 : mg "_law_place" = some (.ref f34))
    (F35 : Fun K "_law_bare" "_law_bare" sLb f35 d35) (g35 : mg "_law_bare" = some (.ref f35))
    (F36 : Fun K "_law_sum" "_law_sum" sLs f36 d36) (g36 : mg "_law_sum" = some (.ref f36))
    (F37 : Fun K "_law_pieces" "_law_pieces" sLps f37 d37) (g37 : mg "_law_pieces" = some (.ref f37))
    (F38 : Fun K "_law_piece" "_law_piece" sLpc f38 d38) (g38 : mg "_law_piece" = some (.ref f38))
    (F39 : Fun K "_law_deed" "_law_deed" sLd f39 d39) (g39 : mg "_law_deed" = some (.ref f39))
    (F40 : Fun K "_law_script" "_law_script" sLsc f40 d40) (g40 : mg "_law_script" = some (.ref f40))
    (F41 : Fun K "_law_odd" "_law_odd" sLo f41 d41) (g41 : mg "_law_odd" = some (.ref f41))
    (F42 : Fun K "_law_bent" "_law_bent" sLbe f42 d42) (g42 : mg "_law_bent" = some (.ref f42))
    (F43 : Fun K "_law_made_of" "_law_made_of" sLm f43 d43) (g43 : mg "_law_made_of" = some (.ref f43))
    (F44 : Fun K "_law_named" "_law_named" sLnd f44 d44) (g44 : mg "_law_named" = some (.ref f44))
    (F45 : Fun K "_law_right_sum" "_law_right_sum" sLrs f45 d45) (g45 : mg "_law_right_sum" = some (.ref f45))
    (F46 : Fun K "_law_right_piece" "_law_right_piece" sLrp f46 d46) (g46 : mg "_law_right_piece" = some (.ref f46))
    (F47 : Fun K "_law_right" "_law_right" sLri f47 d47) (g47 : mg "_law_right" = some (.ref f47))
    (F48 : Fun K "law" "law" sLw f48 d48) (g48 : mg "law" = some (.ref f48))
    (hfa : mg "law" = some (.ref fa)) : codeAny (model P w) callerA (.call (.ref fa) ⟨[.ref a], []⟩) (fun r s' => r = .ok (.ret (.bool true)) ∧ OldK s.heap s'.heap ∧ s'.os = s.os ∧ AllBare s'.gens) s := by
  have e := hfa.symm.trans g48
  cases e
  have b0 := F0.binds (ps := ["text"]) fun _ _ _ _ _ _ us hl => match us, hl with | [_], _ => rfl
  have b1 := F1.binds (ps := ["text"]) fun _ _ _ _ _ _ us hl => match us, hl with | [_], _ => rfl
  have b2 := F2.binds (ps := ["text"]) fun _ _ _ _ _ _ us hl => match us, hl with | [_], _ => rfl
  have b3 := F3.binds (ps := ["text"]) fun _ _ _ _ _ _ us hl => match us, hl with | [_], _ => rfl
  have b4 := F4.binds (ps := ["text"]) fun _ _ _ _ _ _ us hl => match us, hl with | [_], _ => rfl
  have b5 := F5.binds (ps := ["tree"]) fun _ _ _ _ _ _ us hl => match us, hl with | [_], _ => rfl
  have b6 := F6.binds (ps := ["pieces"]) fun _ _ _ _ _ _ us hl => match us, hl with | [_], _ => rfl
  have b7 := F7.binds (ps := ["pieces"]) fun _ _ _ _ _ _ us hl => match us, hl with | [_], _ => rfl
  have b8 := F8.binds (ps := ["word"]) fun _ _ _ _ _ _ us hl => match us, hl with | [_], _ => rfl
  have b9 := F9.binds (ps := ["piece"]) fun _ _ _ _ _ _ us hl => match us, hl with | [_], _ => rfl
  have b10 := F10.binds (ps := ["piece"]) fun _ _ _ _ _ _ us hl => match us, hl with | [_], _ => rfl
  have b11 := F11.binds (ps := ["piece"]) fun _ _ _ _ _ _ us hl => match us, hl with | [_], _ => rfl
  have b12 := F12.binds (ps := ["name", "deed"]) fun _ _ _ _ _ _ us hl => match us, hl with | [_, _], _ => rfl
  have b13 := F13.binds (ps := ["name", "deed"]) fun _ _ _ _ _ _ us hl => match us, hl with | [_, _], _ => rfl
  have b14 := F14.binds (ps := ["pieces", "kind"]) fun _ _ _ _ _ _ us hl => match us, hl with | [_, _], _ => rfl
  have b15 := F15.binds (ps := ["command"]) fun _ _ _ _ _ _ us hl => match us, hl with | [_], _ => rfl
  have b16 := F16.binds (ps := ["sets", "words", "turns"]) fun _ _ _ _ _ _ us hl => match us, hl with | [_, _, _], _ => rfl
  have b17 := F17.binds (ps := ["word", "sets"]) fun _ _ _ _ _ _ us hl => match us, hl with | [_, _], _ => rfl
  have b18 := F18.binds (ps := ["word"]) fun _ _ _ _ _ _ us hl => match us, hl with | [_], _ => rfl
  have b19 := F19.binds (ps := ["words"]) fun _ _ _ _ _ _ us hl => match us, hl with | [_], _ => rfl
  have b20 := F20.binds (ps := ["turns"]) fun _ _ _ _ _ _ us hl => match us, hl with | [_], _ => rfl
  have b21 := F21.binds (ps := ["command"]) fun _ _ _ _ _ _ us hl => match us, hl with | [_], _ => rfl
  have b22 := F22.binds (ps := ["path", "kind", "parts"]) fun _ _ _ _ _ _ us hl => match us, hl with | [_, _, _], _ => rfl
  have b23 := F23.binds (ps := ["index", "turns"]) fun _ _ _ _ _ _ us hl => match us, hl with | [_, _], _ => rfl
  have b24 := F24.binds (ps := ["pieces"]) fun _ _ _ _ _ _ us hl => match us, hl with | [_], _ => rfl
  have b25 := F25.binds (ps := ["word"]) fun _ _ _ _ _ _ us hl => match us, hl with | [_], _ => rfl
  have b26 := F26.binds (ps := ["command"]) fun _ _ _ _ _ _ us hl => match us, hl with | [_], _ => rfl
  have b27 := F27.binds (ps := ["tree"]) fun _ _ _ _ _ _ us hl => match us, hl with | [_], _ => rfl
  have kb27 : KBinds K d27 ["tree"] ["tree"] (fun us ws => us ++ ws) (fun vs zs => vs ++ zs) := by
    obtain ⟨oc, od, kV, doc, pm, an, cdv, ct, osl, rfl, lk, hcd⟩ := F27.ex
    refine ⟨fun s us ws _ hl => ?_, fun r rz => r.append rz⟩
    match us, ws, hl with
    | [], [u], _ => exact .of_eq rfl
    | [u], [], _ => exact .of_eq rfl
  have b28 := F28.binds (ps := ["commands"]) fun _ _ _ _ _ _ us hl => match us, hl with | [_], _ => rfl
  have b29 := F29.binds (ps := ["_law_script_here"]) fun _ _ _ _ _ _ us hl => match us, hl with | [_], _ => rfl
  have b30 := F30.binds (ps := ["_law_state_here", "_law_many"]) fun _ _ _ _ _ _ us hl => match us, hl with | [_, _], _ => rfl
  have b31 := F31.binds (ps := ["_law_state_here", "_law_some", "_law_least", "_law_most"]) fun _ _ _ _ _ _ us hl => match us, hl with | [_, _, _, _], _ => rfl
  have b32 := F32.binds (ps := ["_law_state_here", "_law_least", "_law_most"]) fun _ _ _ _ _ _ us hl => match us, hl with | [_, _, _], _ => rfl
  have b33 := F33.binds (ps := ["_law_state_here"]) fun _ _ _ _ _ _ us hl => match us, hl with | [_], _ => rfl
  have b34 := F34.binds (ps := ["_law_state_here"]) fun _ _ _ _ _ _ us hl => match us, hl with | [_], _ => rfl
  have b35 := F35.binds (ps := ["_law_state_here"]) fun _ _ _ _ _ _ us hl => match us, hl with | [_], _ => rfl
  have b36 := F36.binds (ps := ["_law_state_here", "_law_deep"]) fun _ _ _ _ _ _ us hl => match us, hl with | [_, _], _ => rfl
  have b37 := F37.binds (ps := ["_law_state_here", "_law_deep", "_law_inner", "_law_inside", "_law_least"]) fun _ _ _ _ _ _ us hl => match us, hl with | [_, _, _, _, _], _ => rfl
  have b38 := F38.binds (ps := ["_law_state_here", "_law_deep", "_law_inner", "_law_inside"]) fun _ _ _ _ _ _ us hl => match us, hl with | [_, _, _, _], _ => rfl
  have b39 := F39.binds (ps := ["_law_state_here", "_law_deep", "_law_inner", "_law_name_here"]) fun _ _ _ _ _ _ us hl => match us, hl with | [_, _, _, _], _ => rfl
  have b40 := F40.binds (ps := ["_law_state_here", "_law_deep", "_law_least"]) fun _ _ _ _ _ _ us hl => match us, hl with | [_, _, _], _ => rfl
  have b41 := F41.binds (ps := ["_law_state_here"]) fun _ _ _ _ _ _ us hl => match us, hl with | [_], _ => rfl
  have b42 := F42.binds (ps := ["_law_state_here", "_law_pieces_here", "_law_inside"]) fun _ _ _ _ _ _ us hl => match us, hl with | [_, _, _], _ => rfl
  have b43 := F43.binds (ps := ["_law_told", "_law_some"]) fun _ _ _ _ _ _ us hl => match us, hl with | [_, _], _ => rfl
  have b44 := F44.binds (ps := ["_law_told"]) fun _ _ _ _ _ _ us hl => match us, hl with | [_], _ => rfl
  have b45 := F45.binds (ps := ["_law_node"]) fun _ _ _ _ _ _ us hl => match us, hl with | [_], _ => rfl
  have b46 := F46.binds (ps := ["_law_piece_here", "_law_inside"]) fun _ _ _ _ _ _ us hl => match us, hl with | [_, _], _ => rfl
  have b47 := F47.binds (ps := ["_law_pieces_here", "_law_inside"]) fun _ _ _ _ _ _ us hl => match us, hl with | [_, _], _ => rfl
  have bL : ∀ (s : Shared) (u : Value), BindsTo s d48 ⟨[u], []⟩ ((["_law_script_here"] : List Str).zip [u]) := by
    obtain ⟨oc, od, kV, doc, pm, an, cdv, ct, osl, rfl, lk, hcd⟩ := F48.ex
    exact fun s u => .of_eq rfl
  refine law_at KX hns hb hbb lim hg ha hi (Nat.le_trans hl (by decide)) fun base H hK hN env sq => ?_
  have oNl := has_Nl (P := P) (w := w) (base := base) F0 g0 B W
  have oNn := has_Nn (P := P) (w := w) (base := base) F1 g1 B oNl
  have oIp := has_Ip (P := P) (w := w) (base := base) F2 g2 B W
  have oIb := has_Ib (P := P) (w := w) (base := base) F3 g3 B W
  have oBs := has_Bs (P := P) (w := w) (base := base) F4 g4 B oNl
  have hIs : Has P w K mg base 18 "is_sum" ["tree"] (spIsT K 15) := ⟨f5, d5, g5, F5.kp, b5, ok_IsT (P := P) (w := w) (base := base) F5 g5 b5 B W oIp oNn 15⟩
  have oSz := has_Sz (P := P) (w := w) (base := base) F13 g13 B
  have oHn := has_Hn (P := P) (w := w) (base := base) F14 g14 B
  have hWs := ok_words (P := P) (w := w) (base := base) (CR := CRo) F6 g6 F7 g7 F9 g9 F10 g10 F11 g11 F12 g12 B W oSz oHn oIb oIp oNn hIs
  have oFw1 : Has P w K mg base 25 "is_full_word" ["word"] (spFw K CRo 1) := has_Fw (P := P) (w := w) (base := base) (CR := CRo) (n := 1) (L := 24) F8 g8 B (hWs 1 (by decide)).1
  have oFw5 : Has P w K mg base 41 "is_full_word" ["word"] (spFw K CRo 5) := has_Fw (P := P) (w := w) (base := base) (CR := CRo) (n := 5) (L := 40) F8 g8 B (hWs 5 (by decide)).1
  have oKw := has_Kw (P := P) (w := w) (base := base) F18 g18 B W
  have oFi := has_Fi (P := P) (w := w) (base := base) F17 g17 B oKw oBs
  have oAws := has_Aws (P := P) (w := w) (base := base) F19 g19 B oFw1
  have oAt := has_At (P := P) (w := w) (base := base) F20 g20 B
  have oDo := has_Do (P := P) (w := w) (base := base) F16 g16 B oAt oAws oFi
  have oCm := has_Cm (P := P) (w := w) (base := base) F15 g15 B oDo
  have hSw := ok_scr (P := P) (w := w) (base := base) (CR := CRo) F24 g24 B
  have oCiw1 : Has P w K mg base 3 "commands_in_word" ["word"] (spCiw K CRo 1) := has_Ciw (P := P) (w := w) (base := base) (n := 1) (by decide) F25 g25 B (hSw 1 (by decide))
  have oCiw5 : Has P w K mg base 7 "commands_in_word" ["word"] (spCiw K CRo 5) := has_Ciw (P := P) (w := w) (base := base) (n := 5) (by decide) F25 g25 B (hSw 5 (by decide))
  have oAa := has_Aa (P := P) (w := w) (base := base) F22 g22 B
  have oTw := has_Tw (P := P) (w := w) (base := base) F23 g23 B
  have oPo := has_Po (P := P) (w := w) (base := base) F21 g21 B oAa oTw
  have oCin := has_Cin (P := P) (w := w) (base := base) F26 g26 B oPo oCiw1
  have oFwi := has_Fwi (P := P) (w := w) (base := base) F28 g28 B oCm oCin
  have oIw : HasK P w K mg base 42 "is_word" ["tree"] (spIw K 5) := hasK_of F27 g27 b27 kb27 (has_Iw (P := P) (w := w) (base := base) (n := 5) (L := 41) (by decide) (by decide) (by decide) F27 g27 B oFwi oCiw5 oFw5)
  have hSta : Has P w K mg base 1 "_law_state" ["_law_script_here"] (spState K) := ⟨f29, d29, g29, F29.kp, b29, ok_state (P := P) (mg := mg) (w := w) (base := base) F29 B⟩
  have hDr : Has P w K mg base 1 "_law_draw" ["_law_state_here", "_law_many"] spDraw := ⟨f30, d30, g30, F30.kp, b30, ok_draw (P := P) (mg := mg) (w := w) (base := base) F30 B⟩
  have hSi : Has P w K mg base 2 "_law_signs" ["_law_state_here", "_law_some", "_law_least", "_law_most"] spSig := ⟨f31, d31, g31, F31.kp, b31, ok_sig (P := P) (mg := mg) (w := w) (base := base) F31 B F30 g30 b30⟩
  have oNm := ok_nm (P := P) (w := w) (base := base) F33 B F30 g30 b30 F31 g31 b31
  have hNm : Has P w K mg base 3 "_law_name" ["_law_state_here"] spNm := ⟨f33, d33, g33, F33.kp, b33, oNm⟩
  have oAn := has_An (P := P) (w := w) (base := base) F32 g32 B drwT hDr sgwT hSi
  have oLp := has_Lp (P := P) (w := w) (base := base) F34 g34 B drwT hDr
  have oLb := has_Lb (P := P) (w := w) (base := base) F35 g35 B drwT hDr sgwT hSi
  have oLsc := has_Lsc (P := P) (w := w) (base := base) F40 g40 B drwT hDr
  have hLs : Has P w K mg base 8 "_law_sum" ["_law_state_here", "_law_deep"] (spLs K 3) := ⟨f36, d36, g36, F36.kp, b36, ok_Ls (P := P) (w := w) (base := base) drw nmw F36 g36 b36 g30 F30.kp b30 (ok_draw (P := P) (mg := mg) (w := w) (base := base) F30 B) g33 F33.kp b33 oNm 3⟩
  have hPs := ok_Ps (P := P) (w := w) (base := base) drwT F37 g37 F38 g38 F39 g39 B hDr oAn oLb oLsc smwT hLs hNm oLp 4 (by decide)
  have oLo := has_Lo (P := P) (w := w) (base := base) F41 g41 B oAn drwT hDr
  have oLbe := ok_Lbe (P := P) (w := w) (base := base) drwT F42 g42 B oLo hDr 4 (by decide)
  have oLm := has_Lm (P := P) (w := w) (base := base) F43 g43 B
  have oLnd := has_Lnd (P := P) (w := w) (base := base) F44 g44 B oLm
  have oLrs := ok_Lrs (P := P) (w := w) (base := base) F45 g45 B oLnd 13
  have oLri := ok_Lri (P := P) (w := w) (base := base) F47 g47 F46 g46 B oLrs oLnd oLm 5 (by decide)
  have hr : Room 43 callerA := ⟨rfl, by decide, by decide⟩
  exact (ok_Lw F48 B hSta drwT hDr (pswT 4) hPs oIw oLbe oLri).run callerA [] s H ⟨[.ref a], []⟩ [.ref a] [.ref a] (fun v _ => v = V.bl true) rfl hr env (bL s (.ref a)) (.cons rfl .nil) ⟨a, ns, rfl, sq, hl, fun _ => rfl⟩
end Qb
end PySem
open PySem PySem.W PyProof.Rows
set_option maxRecDepth 100000 in
set_option maxHeartbeats 0 in
theorem PySem.Challenge.cw_quotedback_k01_words_holds : PySem.Challenge.rw_quotedback_k01_words.Holds := by
  w_on; o_law; k_head; (case hw => w_witness2)
  k_fill
  refine Att.attach_call (l := PySem.Challenge.rw_quotedback_k01_words) (n := 63) rfl rfl ?F
  case F =>
    intro w s₀ s₁ mg mb fa o pm cd doc a vs ns G Y ho hd hcd hmg hobj hints hlen hg
    have KX := kIn_of Y
    refine' PySem.Qb.law_holds KX G.T.g G.T.b G.T.builtins G.T.nolimit hg hobj hints hlen
      ⟨PySem.Qb.glob_mk KX G.T.g ?s0 ?e0, PySem.Qb.glob_mk KX G.T.g ?s1 ?e1, PySem.Qb.glob_mk KX G.T.g ?s2 ?e2, PySem.Qb.glob_mk KX G.T.g ?s3 ?e3, PySem.Qb.tup_mk KX G.T.g ?tapls ?tlpls ?tzpls ?tvpls, PySem.Qb.tup_mk KX G.T.g ?taalls ?tlalls ?tzalls ?tvalls, PySem.Qb.tup_mk KX G.T.g ?takws ?tlkws ?tzkws ?tvkws, PySem.Qb.tup_mk KX G.T.g ?tacuts ?tlcuts ?tzcuts ?tvcuts, PySem.Qb.rks_mk KX G.T.g ?ra ?rl ?re ?rlow⟩
      ⟨mg_none_of KX G.T.g ?y0, mg_none_of KX G.T.g ?y1, mg_none_of KX G.T.g ?y2, mg_none_of KX G.T.g ?y3, mg_none_of KX G.T.g ?y4, mg_none_of KX G.T.g ?y5, mg_none_of KX G.T.g ?y6, mg_none_of KX G.T.g ?y7, mg_none_of KX G.T.g ?y8, mg_none_of KX G.T.g ?y9, mg_none_of KX G.T.g ?y10, mg_none_of KX G.T.g ?y11, mg_none_of KX G.T.g ?y12, mg_none_of KX G.T.g ?y13, mg_none_of KX G.T.g ?y14, mg_none_of KX G.T.g ?y15, mg_none_of KX G.T.g ?y16, mg_none_of KX G.T.g ?y17, mg_none_of KX G.T.g ?y18, mg_none_of KX G.T.g ?y19⟩
      (L2.fun_mk ?lf0 ?cf0 ?kf0) (mg_of KX G.T.g ?af0)
      (L2.fun_mk ?lf1 ?cf1 ?kf1) (mg_of KX G.T.g ?af1)
      (L2.fun_mk ?lf2 ?cf2 ?kf2) (mg_of KX G.T.g ?af2)
      (L2.fun_mk ?lf3 ?cf3 ?kf3) (mg_of KX G.T.g ?af3)
      (L2.fun_mk ?lf4 ?cf4 ?kf4) (mg_of KX G.T.g ?af4)
      (L2.fun_mk ?lf5 ?cf5 ?kf5) (mg_of KX G.T.g ?af5)
      (L2.fun_mk ?lf6 ?cf6 ?kf6) (mg_of KX G.T.g ?af6)
      (L2.fun_mk ?lf7 ?cf7 ?kf7) (mg_of KX G.T.g ?af7)
      (L2.fun_mk ?lf8 ?cf8 ?kf8) (mg_of KX G.T.g ?af8)
      (L2.fun_mk ?lf9 ?cf9 ?kf9) (mg_of KX G.T.g ?af9)
      (L2.fun_mk ?lf10 ?cf10 ?kf10) (mg_of KX G.T.g ?af10)
      (L2.fun_mk ?lf11 ?cf11 ?kf11) (mg_of KX G.T.g ?af11)
      (L2.fun_mk ?lf12 ?cf12 ?kf12) (mg_of KX G.T.g ?af12)
      (L2.fun_mk ?lf13 ?cf13 ?kf13) (mg_of KX G.T.g ?af13)
      (L2.fun_mk ?lf14 ?cf14 ?kf14) (mg_of KX G.T.g ?af14)
      (L2.fun_mk ?lf15 ?cf15 ?kf15) (mg_of KX G.T.g ?af15)
      (L2.fun_mk ?lf16 ?cf16 ?kf16) (mg_of KX G.T.g ?af16)
      (L2.fun_mk ?lf17 ?cf17 ?kf17) (mg_of KX G.T.g ?af17)
      (L2.fun_mk ?lf18 ?cf18 ?kf18) (mg_of KX G.T.g ?af18)
      (L2.fun_mk ?lf19 ?cf19 ?kf19) (mg_of KX G.T.g ?af19)
      (L2.fun_mk ?lf20 ?cf20 ?kf20) (mg_of KX G.T.g ?af20)
      (L2.fun_mk ?lf21 ?cf21 ?kf21) (mg_of KX G.T.g ?af21)
      (L2.fun_mk ?lf22 ?cf22 ?kf22) (mg_of KX G.T.g ?af22)
      (L2.fun_mk ?lf23 ?cf23 ?kf23) (mg_of KX G.T.g ?af23)
      (L2.fun_mk ?lf24 ?cf24 ?kf24) (mg_of KX G.T.g ?af24)
      (L2.fun_mk ?lf25 ?cf25 ?kf25) (mg_of KX G.T.g ?af25)
      (L2.fun_mk ?lf26 ?cf26 ?kf26) (mg_of KX G.T.g ?af26)
      (L2.fun_mk ?lf27 ?cf27 ?kf27) (mg_of KX G.T.g ?af27)
      (L2.fun_mk ?lf28 ?cf28 ?kf28) (mg_of KX G.T.g ?af28)
      (L2.fun_mk ?lf29 ?cf29 ?kf29) (mg_of KX G.T.g ?af29)
      (L2.fun_mk ?lf30 ?cf30 ?kf30) (mg_of KX G.T.g ?af30)
      (L2.fun_mk ?lf31 ?cf31 ?kf31) (mg_of KX G.T.g ?af31)
      (L2.fun_mk ?lf32 ?cf32 ?kf32) (mg_of KX G.T.g ?af32)
      (L2.fun_mk ?lf33 ?cf33 ?kf33) (mg_of KX G.T.g ?af33)
      (L2.fun_mk ?lf34 ?cf34 ?kf34) (mg_of KX G.T.g ?af34)
      (L2.fun_mk ?lf35 ?cf35 ?kf35) (mg_of KX G.T.g ?af35)
      (L2.fun_mk ?lf36 ?cf36 ?kf36) (mg_of KX G.T.g ?af36)
      (L2.fun_mk ?lf37 ?cf37 ?kf37) (mg_of KX G.T.g ?af37)
      (L2.fun_mk ?lf38 ?cf38 ?kf38) (mg_of KX G.T.g ?af38)
      (L2.fun_mk ?lf39 ?cf39 ?kf39) (mg_of KX G.T.g ?af39)
      (L2.fun_mk ?lf40 ?cf40 ?kf40) (mg_of KX G.T.g ?af40)
      (L2.fun_mk ?lf41 ?cf41 ?kf41) (mg_of KX G.T.g ?af41)
      (L2.fun_mk ?lf42 ?cf42 ?kf42) (mg_of KX G.T.g ?af42)
      (L2.fun_mk ?lf43 ?cf43 ?kf43) (mg_of KX G.T.g ?af43)
      (L2.fun_mk ?lf44 ?cf44 ?kf44) (mg_of KX G.T.g ?af44)
      (L2.fun_mk ?lf45 ?cf45 ?kf45) (mg_of KX G.T.g ?af45)
      (L2.fun_mk ?lf46 ?cf46 ?kf46) (mg_of KX G.T.g ?af46)
      (L2.fun_mk ?lf47 ?cf47 ?kf47) (mg_of KX G.T.g ?af47)
      (L2.fun_mk ?lf48 ?cf48 ?kf48) (mg_of KX G.T.g ?af48) hmg
    (case s0 => k_is)
    (case s1 => k_is)
    (case s2 => k_is)
    (case s3 => k_is)
    (case tapls => k_is)
    (case tlpls => k_is)
    (case taalls => k_is)
    (case tlalls => k_is)
    (case takws => k_is)
    (case tlkws => k_is)
    (case tacuts => k_is)
    (case tlcuts => k_is)
    (case ra => k_is)
    (case rl => k_is)
    (case y0 => k_is)
    (case y1 => k_is)
    (case y2 => k_is)
    (case y3 => k_is)
    (case y4 => k_is)
    (case y5 => k_is)
    (case y6 => k_is)
    (case y7 => k_is)
    (case y8 => k_is)
    (case y9 => k_is)
    (case y10 => k_is)
    (case y11 => k_is)
    (case y12 => k_is)
    (case y13 => k_is)
    (case y14 => k_is)
    (case y15 => k_is)
    (case y16 => k_is)
    (case y17 => k_is)
    (case y18 => k_is)
    (case y19 => k_is)
    (case af0 => k_is)
    (case lf0 => k_is)
    (case cf0 => k_is)
    (case kf0 => k_is)
    (case af1 => k_is)
    (case lf1 => k_is)
    (case cf1 => k_is)
    (case kf1 => k_is)
    (case af2 => k_is)
    (case lf2 => k_is)
    (case cf2 => k_is)
    (case kf2 => k_is)
    (case af3 => k_is)
    (case lf3 => k_is)
    (case cf3 => k_is)
    (case kf3 => k_is)
    (case af4 => k_is)
    (case lf4 => k_is)
    (case cf4 => k_is)
    (case kf4 => k_is)
    (case af5 => k_is)
    (case lf5 => k_is)
    (case cf5 => k_is)
    (case kf5 => k_is)
    (case af6 => k_is)
    (case lf6 => k_is)
    (case cf6 => k_is)
    (case kf6 => k_is)
    (case af7 => k_is)
    (case lf7 => k_is)
    (case cf7 => k_is)
    (case kf7 => k_is)
    (case af8 => k_is)
    (case lf8 => k_is)
    (case cf8 => k_is)
    (case kf8 => k_is)
    (case af9 => k_is)
    (case lf9 => k_is)
    (case cf9 => k_is)
    (case kf9 => k_is)
    (case af10 => k_is)
    (case lf10 => k_is)
    (case cf10 => k_is)
    (case kf10 => k_is)
    (case af11 => k_is)
    (case lf11 => k_is)
    (case cf11 => k_is)
    (case kf11 => k_is)
    (case af12 => k_is)
    (case lf12 => k_is)
    (case cf12 => k_is)
    (case kf12 => k_is)
    (case af13 => k_is)
    (case lf13 => k_is)
    (case cf13 => k_is)
    (case kf13 => k_is)
    (case af14 => k_is)
    (case lf14 => k_is)
    (case cf14 => k_is)
    (case kf14 => k_is)
    (case af15 => k_is)
    (case lf15 => k_is)
    (case cf15 => k_is)
    (case kf15 => k_is)
    (case af16 => k_is)
    (case lf16 => k_is)
    (case cf16 => k_is)
    (case kf16 => k_is)
    (case af17 => k_is)
    (case lf17 => k_is)
    (case cf17 => k_is)
    (case kf17 => k_is)
    (case af18 => k_is)
    (case lf18 => k_is)
    (case cf18 => k_is)
    (case kf18 => k_is)
    (case af19 => k_is)
    (case lf19 => k_is)
    (case cf19 => k_is)
    (case kf19 => k_is)
    (case af20 => k_is)
    (case lf20 => k_is)
    (case cf20 => k_is)
    (case kf20 => k_is)
    (case af21 => k_is)
    (case lf21 => k_is)
    (case cf21 => k_is)
    (case kf21 => k_is)
    (case af22 => k_is)
    (case lf22 => k_is)
    (case cf22 => k_is)
    (case kf22 => k_is)
    (case af23 => k_is)
    (case lf23 => k_is)
    (case cf23 => k_is)
    (case kf23 => k_is)
    (case af24 => k_is)
    (case lf24 => k_is)
    (case cf24 => k_is)
    (case kf24 => k_is)
    (case af25 => k_is)
    (case lf25 => k_is)
    (case cf25 => k_is)
    (case kf25 => k_is)
    (case af26 => k_is)
    (case lf26 => k_is)
    (case cf26 => k_is)
    (case kf26 => k_is)
    (case af27 => k_is)
    (case lf27 => k_is)
    (case cf27 => k_is)
    (case kf27 => k_is)
    (case af28 => k_is)
    (case lf28 => k_is)
    (case cf28 => k_is)
    (case kf28 => k_is)
    (case af29 => k_is)
    (case lf29 => k_is)
    (case cf29 => k_is)
    (case kf29 => k_is)
    (case af30 => k_is)
    (case lf30 => k_is)
    (case cf30 => k_is)
    (case kf30 => k_is)
    (case af31 => k_is)
    (case lf31 => k_is)
    (case cf31 => k_is)
    (case kf31 => k_is)
    (case af32 => k_is)
    (case lf32 => k_is)
    (case cf32 => k_is)
    (case kf32 => k_is)
    (case af33 => k_is)
    (case lf33 => k_is)
    (case cf33 => k_is)
    (case kf33 => k_is)
    (case af34 => k_is)
    (case lf34 => k_is)
    (case cf34 => k_is)
    (case kf34 => k_is)
    (case af35 => k_is)
    (case lf35 => k_is)
    (case cf35 => k_is)
    (case kf35 => k_is)
    (case af36 => k_is)
    (case lf36 => k_is)
    (case cf36 => k_is)
    (case kf36 => k_is)
    (case af37 => k_is)
    (case lf37 => k_is)
    (case cf37 => k_is)
    (case kf37 => k_is)
    (case af38 => k_is)
    (case lf38 => k_is)
    (case cf38 => k_is)
    (case kf38 => k_is)
    (case af39 => k_is)
    (case lf39 => k_is)
    (case cf39 => k_is)
    (case kf39 => k_is)
    (case af40 => k_is)
    (case lf40 => k_is)
    (case cf40 => k_is)
    (case kf40 => k_is)
    (case af41 => k_is)
    (case lf41 => k_is)
    (case cf41 => k_is)
    (case kf41 => k_is)
    (case af42 => k_is)
    (case lf42 => k_is)
    (case cf42 => k_is)
    (case kf42 => k_is)
    (case af43 => k_is)
    (case lf43 => k_is)
    (case cf43 => k_is)
    (case kf43 => k_is)
    (case af44 => k_is)
    (case lf44 => k_is)
    (case cf44 => k_is)
    (case kf44 => k_is)
    (case af45 => k_is)
    (case lf45 => k_is)
    (case cf45 => k_is)
    (case kf45 => k_is)
    (case af46 => k_is)
    (case lf46 => k_is)
    (case cf46 => k_is)
    (case kf46 => k_is)
    (case af47 => k_is)
    (case lf47 => k_is)
    (case cf47 => k_is)
    (case kf47 => k_is)
    (case af48 => k_is)
    (case lf48 => k_is)
    (case cf48 => k_is)
    (case kf48 => k_is)
    (case e0 => first | rfl | decide +kernel)
    (case e1 => first | rfl | decide +kernel)
    (case e2 => first | rfl | decide +kernel)
    (case e3 => first | rfl | decide +kernel)
    (case tzpls => decide +kernel)
    (case tvpls => exact (.cons ⟨_, rfl⟩ (.cons ⟨_, rfl⟩ (.cons ⟨_, rfl⟩ (.cons ⟨_, rfl⟩ (.cons ⟨_, rfl⟩ .nil))))))
    (case tzalls => decide +kernel)
    (case tvalls => exact (.cons ⟨_, rfl⟩ (.cons ⟨_, rfl⟩ .nil)))
    (case tzkws => decide +kernel)
    (case tvkws => exact (.cons ⟨_, rfl⟩ (.cons ⟨_, rfl⟩ (.cons ⟨_, rfl⟩ (.cons ⟨_, rfl⟩ (.cons ⟨_, rfl⟩ (.cons ⟨_, rfl⟩ (.cons ⟨_, rfl⟩ (.cons ⟨_, rfl⟩ (.cons ⟨_, rfl⟩ (.cons ⟨_, rfl⟩ (.cons ⟨_, rfl⟩ (.cons ⟨_, rfl⟩ (.cons ⟨_, rfl⟩ (.cons ⟨_, rfl⟩ (.cons ⟨_, rfl⟩ (.cons ⟨_, rfl⟩ .nil)))))))))))))))))
    (case tzcuts => decide +kernel)
    (case tvcuts => exact (.cons ⟨_, rfl⟩ (.cons ⟨_, rfl⟩ (.cons ⟨_, rfl⟩ (.cons ⟨_, rfl⟩ .nil)))))
    (case re => exact (.cons rfl ⟨_, rfl⟩ (.cons rfl ⟨_, rfl⟩ (.cons rfl ⟨_, rfl⟩ (.cons rfl ⟨_, rfl⟩ (.cons rfl ⟨_, rfl⟩ (.cons rfl ⟨_, rfl⟩ (.cons rfl ⟨_, rfl⟩ (.cons rfl ⟨_, rfl⟩ (.cons rfl ⟨_, rfl⟩ (.cons rfl ⟨_, rfl⟩ (.cons rfl ⟨_, rfl⟩ (.cons rfl ⟨_, rfl⟩ (.cons rfl ⟨_, rfl⟩ .nil))))))))))))))
    (case rlow => decide +kernel)
