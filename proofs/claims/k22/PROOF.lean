import PyProof.Rows.All
import Wide.All
import OpenK.AllK
import Wide.FinOn
import PyProof.EqAt
import PyProof.EqKinds
import PyProof.TupleCall
import PyProof.RulesMatchSeq
import PyProof.Rows.MatchSeqLen
import HandS.ForMost
import HandS.Walk
import HandS.Iter
import HandS.Text
import HandS.IsInst
import PyProof.RulesMatchSingle
import HandS.Wide
import HandS.ExcInit
import HandS.ExcOwn
import HandS.ExcField
import KE.KExcIs
import HandS.Style
import HandS.WideBits
import PyProof.Rows.StrRev
import PyProof.EnumMake
import PyProof.Draws
import HandS.More
import HandS.TupLe
import HandS.Replace
import HandS.StrMore
import HandS.WordsExc
import PySem.Challenge.RW_quotedback_k22_no_patterns
set_option Elab.async false
set_option linter.all false
set_option maxRecDepth 100000
set_option maxHeartbeats 8000000
namespace PySem
namespace Qb
open PySem.W PySem.Calls PyProof.Rows L2
/-! # match over tuples, texts and names -/
/-- what a pattern asks: the values of its names in their order, or that it does not fit -/
abbrev PatR := V → Hp → (Option (List V) → Prop) → Prop
def PatE (X : Cx) (pins : List (Addr × Obj)) (σ : L2.St) (H : Hp) (ns : List Str) (Q : Option (List V) → Prop) (res : Option (List (Str × Value))) (s : Shared) : Prop :=
  Inv X pins σ H s ∧ match res with
    | none => Q none
    | some bs => bs.map (·.1) = ns ∧ ∃ vs, Vals vs (bs.map (·.2)) ∧ Q (some vs)
structure PPt (X : Cx) (pat : Pattern) (ns : List Str) (r : PatR) : Prop where
  run : ∀ (pins : List (Addr × Obj)) (s : Shared) (σ : L2.St) (H : Hp) (v : V) (u : Value) (Q : Option (List V) → Prop), Inv X pins σ H s → RelV v u → r v H Q →
    wpAny (model X.prog X.w) X.A (matchPattern pat X.env u) (fun res s1 => PatE X pins σ H ns Q res s1) X.xe s
def rEach : List PatR → List V → Hp → (Option (List V) → Prop) → Prop
  | r :: rs, x :: xs, H, Q => r x H fun o => match o with
    | none => Q none
    | some vs => rEach rs xs H fun o' => match o' with
      | none => Q none
      | some more => Q (some (vs ++ more))
  | _, _, _, Q => Q (some [])
structure PPs (X : Cx) (pats : List Pattern) (ns : List Str) (rs : List PatR) : Prop where
  len : rs.length = pats.length
  run : ∀ (pins : List (Addr × Obj)) (s : Shared) (σ : L2.St) (H : Hp) (vs : List V) (us : List Value) (Q : Option (List V) → Prop), Inv X pins σ H s → Vals vs us → vs.length = pats.length → rEach rs vs H Q →
    wpAny (model X.prog X.w) X.A (matchEach pats X.env us) (fun res s1 => PatE X pins σ H ns Q res s1) X.xe s
theorem ext_keeps {h h2 : Heap} (ex : Heap.ExtBut h.objs.size h h2) (b : Addr) (o : Obj) (z : h.get? b = some o) : h2.get? b = some o := by
  exact ex b o (Nat.ne_of_lt (Heap.lt_size z)) z
section
variable {X : Cx} {pos pos' : Pos}
def rLit (c : Str) : PatR := fun v _ Q => ∃ y, v = .str y ∧ Q (if y = c then some [] else none)
theorem pp_lit {c : Str} {j : Nat} : PPt X (.MatchValue (.Constant (.str c) j pos) pos') [] (rLit c) := by
  refine ⟨fun pins s σ H v u Q I r h => wpAny_matchPattern_Value ?_⟩
  obtain ⟨y, rfl, q⟩ := h
  refine thn (pe_str.run pins s σ H (fun z H1 => z = .str c ∧ H1 = H) I ⟨rfl, rfl⟩) fun x s1 ⟨z, H1, I1, rz, ez, eH⟩ => ?_
  subst ez
  subst eH
  refine thn (op_eq pins s1 σ H1 (.str y) (.str c) u x (fun w H2 => w = .bl (decide (V.str y = V.str c)) ∧ H2 = H1) I1 r rz ⟨rfl, rfl, rfl⟩) fun b s2 ⟨w, H2, I2, rw2, ew, eH⟩ => ?_
  subst ew
  subst eH
  obtain rfl : b = Value.bool (decide (V.str y = V.str c)) := rw2
  show wpAny _ _ (truthy (.bool _)) _ _ _
  refine wpAny_pure ?_
  by_cases e : y = c
  · rw [if_pos e] at q
    rw [if_pos (by simpa using e)]
    exact ⟨I2, rfl, [], .nil, q⟩
  · rw [if_neg e] at q
    rw [if_neg (by simpa using e)]
    exact ⟨I2, q⟩
def rCap : PatR := fun v _ Q => Q (some [v])
theorem pp_cap {n : Str} : PPt X (.MatchAs none (some n) pos) [n] rCap :=
  ⟨fun pins s σ H v u Q I r h => wpAny_matchPattern_Capture ⟨I, rfl, [v], .cons r .nil, h⟩⟩
def rAny1 : PatR := fun _ _ Q => Q (some [])
theorem pp_any : PPt X (.MatchAs none none pos) [] rAny1 :=
  ⟨fun pins s σ H v u Q I r h => wpAny_matchPattern_Capture ⟨I, rfl, [], .nil, h⟩⟩
theorem pps_nil : PPs X [] [] [] :=
  ⟨rfl, fun pins s σ H vs us Q I r hl h => by
    cases r with
    | nil => exact wpAny_matchEach_nil ⟨I, rfl, [], .nil, h⟩
    | cons _ _ => cases hl⟩
theorem pps_cons {p : Pattern} {ps : List Pattern} {ns ms : List Str} {r : PatR} {rs : List PatR} (h1 : PPt X p ns r) (h2 : PPs X ps ms rs) (hp : p.isStar = false := by rfl) : PPs X (p :: ps) (ns ++ ms) (r :: rs) := by
  refine ⟨congrArg Nat.succ h2.len, fun pins s σ H vs us Q I rv hl h => ?_⟩
  cases rv with
  | nil => cases hl
  | @cons x u xs us rx rt =>
    refine wpAny_matchEach_cons (thn (h1.run pins s σ H x u _ I rx h) fun res s1 ⟨I1, z⟩ => ?_) hp
    cases res with
    | none => exact ⟨I1, z⟩
    | some bs =>
      obtain ⟨e1, vs1, r1, q1⟩ := z
      refine thn (h2.run pins s1 σ H xs us _ I1 rt (Nat.succ.inj hl) q1) fun res2 s2 ⟨I2, z2⟩ => ?_
      cases res2 with
      | none => exact ⟨I2, z2⟩
      | some more =>
        obtain ⟨e2, vs2, r2, q2⟩ := z2
        exact ⟨I2, by rw [List.map_append, e1, e2], vs1 ++ vs2, by rw [List.map_append]; exact r1.append r2, q2⟩
def rSeq (K : Frag) (n : Nat) (rs : List PatR) : PatR := fun v H Q => ∃ a xs, v = .ref a ∧ SqT K H a xs ∧ (xs.length ≠ n → Q none) ∧ (xs.length = n → rEach rs xs H Q)
theorem pp_seq {ps : List Pattern} {ns : List Str} {rs : List PatR} {n : Nat} (hc : X.calm = true) (h : PPs X ps ns rs) (hn : ps.length = n := by rfl) (hstar : ps.findIdx? (·.isStar) = none := by rfl)
    (hwild : (ps.all fun p => p.isWildcard || (p.isStar && p.names.isEmpty)) = false := by rfl) : PPt X (.MatchSequence ps pos) ns (rSeq X.K n rs) := by
  refine ⟨fun pins s σ H v u Q I r h' => ?_⟩
  obtain ⟨a, xs, rfl, sq, qn, qy⟩ := h'
  obtain rfl : u = Value.ref a := r
  obtain ⟨its, rv, ht, hz⟩ := I.tuple sq
  have hfit : ((its.toArray.size : Nat) : Int) < 2 ^ 63 := by
    have e := rv.length
    rw [List.size_toArray, ← e]
    rw [sizeLine_eq] at hz
    omega
  have e := rv.length
  by_cases c : xs.length = n
  · refine matchSeq_tuple_hit ht hfit (by rw [List.size_toArray, ← e, c, hn]) ?_ hstar hwild
    have sz : ps.length = its.toArray.size := by rw [List.size_toArray, ← e, c, hn]
    rw [sz]
    refine unpackItems_tuple (I.ok.hd hc) ht fun h2 ex => ?_
    have J : Inv X pins σ H { s with heap := h2, toks := s.toks + 1 + 1 } := I.kept (t' := s.toks + 1 + 1) fun b o z => ext_keeps ex b o z
    refine h.run pins _ σ H xs _ Q J (by simpa using rv) (by rw [c, hn]) (qy c)
  · exact matchSeq_tuple_miss ht hfit (by rw [List.size_toArray, ← e, hn]; exact c) ⟨I.tok _, qn c⟩ hstar hwild
/-- one of some patterns without names -/
def rOr : List PatR → PatR
  | [] => fun _ _ Q => Q none
  | r :: rs => fun v H Q => r v H fun o => match o with
    | some vs => Q (some vs)
    | none => rOr rs v H Q
structure PFirst (X : Cx) (pats : List Pattern) (rs : List PatR) : Prop where
  run : ∀ (pins : List (Addr × Obj)) (s : Shared) (σ : L2.St) (H : Hp) (v : V) (u : Value) (Q : Option (List V) → Prop), Inv X pins σ H s → RelV v u → rOr rs v H Q →
    wpAny (model X.prog X.w) X.A (matchFirst pats X.env u) (fun res s1 => PatE X pins σ H [] Q res s1) X.xe s
theorem pf_nil : PFirst X [] [] := ⟨fun pins s σ H v u Q I r h => wpAny_matchFirst_nil ⟨I, h⟩⟩
theorem pf_cons {p : Pattern} {ps : List Pattern} {r : PatR} {rs : List PatR} (h1 : PPt X p [] r) (h2 : PFirst X ps rs) : PFirst X (p :: ps) (r :: rs) := by
  refine ⟨fun pins s σ H v u Q I rv h => wpAny_matchFirst_cons (thn (h1.run pins s σ H v u _ I rv h) fun res s1 ⟨I1, z⟩ => ?_)⟩
  cases res with
  | none => exact h2.run pins s1 σ H v u Q I1 rv z
  | some bs => exact ⟨I1, z⟩
theorem pp_or {ps : List Pattern} {rs : List PatR} (h : PFirst X ps rs) (hno : namesOfAll (ps.take 1) = [] := by rfl) : PPt X (.MatchOr ps pos) [] (rOr rs) := by
  refine ⟨fun pins s σ H v u Q I r h' => wpAny_matchPattern_Or (thn (h.run pins s σ H v u Q I r h') fun res s1 ⟨I1, z⟩ => ?_)⟩
  cases res with
  | none => exact ⟨I1, z⟩
  | some bs =>
    obtain ⟨e, vs, rv, q⟩ := z
    have e0 : bs = [] := List.map_eq_nil_iff.mp e
    subst e0
    cases rv
    rw [hno]
    exact ⟨I1, rfl, [], .nil, q⟩
/-- names stored in their slots, from the left -/
def setAll : L2.St → List Nat → List V → L2.St
  | σ, i :: is, v :: vs => setAll (σ.set i (some v)) is vs
  | σ, _, _ => σ
def SlotsOk (X : Cx) (ns : List Str) (is : List Nat) : Prop := Paired (fun n i => X.N[i]? = some n ∧ L2.Loc X.env.scope n ∧ (X.fn n = true ∨ X.env.scope.names.lookup n = some .local)) ns is
theorem store_all (hN : X.N.Nodup) {pins : List (Addr × Obj)} {H : Hp} {Q : Unit → Shared → Prop} : ∀ {ns : List Str} {is : List Nat} {bs : List (Str × Value)} {vs : List V} {σ : L2.St} {s : Shared}, SlotsOk X ns is → bs.map (·.1) = ns → Vals vs (bs.map (·.2)) → Inv X pins σ H s →
    (∀ s', Inv X pins (setAll σ is vs) H s' → Q () s') → wpAny (model X.prog X.w) X.A (assignInOrder (bs.map fun (n, _) => bindName X.env n) (bs.map (·.2))) Q X.xe s
  | _, _, [], _, _, _, ok, e, rv, I, q => by
    subst e
    cases rv
    cases ok
    exact wpAny_assignInOrder_none (q _ I)
  | _, _, (n, u) :: bs, _, _, _, ok, e, rv, I, q => by
    subst e
    cases rv with
    | cons r1 r2 =>
      cases ok with
      | cons o1 o2 =>
        refine wpAny_assignInOrder_more (wpAny_bindName (store_ok I hN o1.1 o1.2.1 r1 (fun s' I' => store_all hN o2 rfl r2 I' q) o1.2.2))
def tCases : List (List Nat × PatR × TS) → V → TS
  | [], _ => fun D σ H => D.nx σ H
  | (is, r, t) :: rest, v => fun D σ H => r v H fun o => match o with
    | none => tCases rest v D σ H
    | some vs => t D (setAll σ is vs) H
structure PCs (X : Cx) (cases : List MatchCase) (cs : List (List Nat × PatR × TS)) : Prop where
  run : ∀ (pins : List (Addr × Obj)) (s : Shared) (σ : L2.St) (H : Hp) (D : Ends) (v : V) (u : Value) (first : Bool), Inv X pins σ H s → RelV v u → tCases cs v D σ H →
    wpAny (model X.prog X.w) X.A (matchCases cases X.env u first) (SP X pins D) X.xe s
theorem pcs_nil : PCs X [] [] := ⟨fun pins s σ H D v u first I r h => wpAny_matchCases_nil ⟨σ, H, I, h⟩⟩
theorem pcs_cons {p : Pattern} {body : List Stmt} {cases : List MatchCase} {ns : List Str} {is : List Nat} {r : PatR} {t : TS} {cs : List (List Nat × PatR × TS)} (hN : X.N.Nodup) (h1 : PPt X p ns r) (hs : SlotsOk X ns is) (hb : PSs X body t) (h2 : PCs X cases cs) :
    PCs X (⟨p, none, body⟩ :: cases) ((is, r, t) :: cs) := by
  refine ⟨fun pins s σ H D v u first I rv h => wpAny_matchCases_cons (thn (h1.run pins s σ H v u _ I rv h) fun res s1 ⟨I1, z⟩ => ?_)⟩
  cases res with
  | none => exact h2.run pins s1 σ H D v u false I1 rv z
  | some bs =>
    obtain ⟨e, vs, r2, q⟩ := z
    exact store_all hN hs e r2 I1 fun s2 I2 => hb.run pins s2 _ H D I2 q
def tMatch (te : TE) (cs : List (List Nat × PatR × TS)) : TS := fun D σ H => te σ H fun v H1 => tCases cs v D σ H1
theorem ps_match {e : Expr} {cases : List MatchCase} {te : TE} {cs : List (List Nat × PatR × TS)} (he : PE X e te) (hc : PCs X cases cs) : PS X (.Match e cases pos) (tMatch te cs) :=
  ⟨fun pins s σ H D I h => wpAny_Match (thn (he.run pins s σ H _ I h) fun u s1 ⟨v, H1, I1, rv, q⟩ => hc.run pins s1 σ H1 D v u true I1 rv q)⟩
end
/-! # heaps -/
theorem same_upd {H : Hp} {a : Addr} {o : HO} (h : H a = none) : Same H (upd H a o) := fun b u e => by
  rw [upd_ne (ne_of_none e h)]
  exact e
theorem same_upd2 {H H1 : Hp} {a : Addr} {o : HO} (s : Same H H1) (h : H a = none) : Same H (upd H1 a o) := fun b u e => by
  rw [upd_ne (ne_of_none e h)]
  exact s b u e
theorem take_snoc {α : Type} {l : List α} {i : Nat} {x : α} (h : l[i]? = some x) : l.take (i + 1) = l.take i ++ [x] := by
  rw [List.take_succ, h]
  rfl
theorem if_no {c : Bool} {A B : Prop} (h : c = false) (b : B) : if c = true then A else B := by
  rw [h, if_neg Bool.false_ne_true]
  exact b
theorem if_yes {c : Bool} {A B : Prop} (h : c = true) (a : A) : if c = true then A else B := by
  rw [if_pos h]
  exact a
theorem if_by {c : Bool} {A B : Prop} (a : c = true → A) (b : c = false → B) : if c = true then A else B := by
  cases c with
  | true => exact a rfl
  | false => exact b rfl
abbrev cs (x : Str) : List Nat := x.cps.toList
theorem glob_str {X : Cx} {x : Str} {c : Str} {pos : Pos} (hg : Gl X x) (hm : ∃ t, X.mg x = some (.str c t)) (hd : (x == ("__debug__" : Str)) = false := by decide) : PE X (.Name x pos) (tC (.str c)) := by
  obtain ⟨t, e⟩ := hm
  exact pe_glob hg e ⟨t, rfl⟩ hd
theorem pe_never {X : Cx} {e : Expr} : PE X e (fun _ _ _ => False) := ⟨fun _ _ _ _ _ _ h => h.elim⟩
theorem pt_never {X : Cx} {e : Expr} : PT X e (fun _ _ _ => False) := ⟨fun _ _ _ _ _ _ h => h.elim⟩
theorem sqT_same {K : Frag} {H H' : Hp} {a : Addr} {xs : List V} (s : Same H H') (h : SqT K H a xs) : SqT K H' a xs := by
  rcases h with (h | ⟨o, h⟩) | h
  · exact .inl (.inl (s _ _ h))
  · exact .inl (.inr ⟨o, s _ _ h⟩)
  · exact .inr h
theorem dp_same {K : Frag} {H H' : Hp} (s : Same H H') : ∀ {d : PyData} {v : V}, Dp K H v d → Dp K H' v d := by
  intro d v h
  exact Dp.rec (motive_1 := fun v d _ => Dp K H' v d) (motive_2 := fun vs ds _ => DpAll K H' vs ds) .non .bl .int .str (fun h1 _ ih => .lst (s.seq h1) ih) (fun h1 _ ih => .tup (sqT_same s h1) ih) .nil (fun _ _ a b => .cons a b) h
theorem dpAll_same {K : Frag} {H H' : Hp} (s : Same H H') : ∀ {ds : List PyData} {vs : List V}, DpAll K H vs ds → DpAll K H' vs ds
  | [], _, .nil => .nil
  | _ :: _, _, .cons h t => .cons (dp_same s h) (dpAll_same s t)
theorem dpLen {K : Frag} {H : Hp} : ∀ {vs : List V} {ds : List PyData}, DpAll K H vs ds → vs.length = ds.length
  | _, _, .nil => rfl
  | _, _, .cons _ t => congrArg Nat.succ (dpLen t)
theorem dpAt {K : Frag} {H : Hp} : ∀ {vs : List V} {ds : List PyData} {i : Nat} {d : PyData}, DpAll K H vs ds → ds[i]? = some d → ∃ v, vs[i]? = some v ∧ Dp K H v d
  | _, _, _, _, .nil, e => by cases e
  | _, _, 0, _, .cons h _, e => by
    obtain rfl := Option.some.inj e
    exact ⟨_, rfl, h⟩
  | _, _, i + 1, _, .cons _ t, e => dpAt (i := i) t e
theorem dpAt' {K : Frag} {H : Hp} : ∀ {vs : List V} {ds : List PyData} {i : Nat} {v : V}, DpAll K H vs ds → vs[i]? = some v → ∃ d, ds[i]? = some d ∧ Dp K H v d
  | _, _, _, _, .nil, e => by cases e
  | _, _, 0, _, .cons h _, e => by
    obtain rfl := Option.some.inj e
    exact ⟨_, rfl, h⟩
  | _, _, i + 1, _, .cons _ t, e => dpAt' (i := i) t e
theorem dpApp {K : Frag} {H : Hp} : ∀ {vs ws : List V} {ds es : List PyData}, DpAll K H vs ds → DpAll K H ws es → DpAll K H (vs ++ ws) (ds ++ es)
  | _, _, _, _, .nil, h => h
  | _, _, _, _, .cons h t, h' => .cons h (dpApp t h')
theorem dpDrop {K : Frag} {H : Hp} : ∀ (n : Nat) {vs : List V} {ds : List PyData}, DpAll K H vs ds → DpAll K H (vs.drop n) (ds.drop n)
  | 0, _, _, h => h
  | n + 1, _, _, .nil => .nil
  | n + 1, _, _, .cons _ t => dpDrop n t
theorem dpTake {K : Frag} {H : Hp} : ∀ (n : Nat) {vs : List V} {ds : List PyData}, DpAll K H vs ds → DpAll K H (vs.take n) (ds.take n)
  | 0, _, _, _ => .nil
  | n + 1, _, _, .nil => .nil
  | n + 1, _, _, .cons h t => .cons h (dpTake n t)
theorem dp_tup {K : Frag} {H : Hp} {v : V} {ds : List PyData} (h : Dp K H v (.tuple ds)) : ∃ a xs, v = .ref a ∧ SqT K H a xs ∧ DpAll K H xs ds := by
  cases h with
  | tup h1 h2 => exact ⟨_, _, rfl, h1, h2⟩
theorem dp_lst {K : Frag} {H : Hp} {v : V} {ds : List PyData} (h : Dp K H v (.list ds)) : ∃ a xs, v = .ref a ∧ SqL K H a xs ∧ DpAll K H xs ds := by
  cases h with
  | lst h1 h2 => exact ⟨_, _, rfl, h1, h2⟩
theorem dp_str {K : Frag} {H : Hp} {v : V} {x : Str} (h : Dp K H v (.str x)) : v = .str x := by
  cases h
  rfl
theorem dp_two {K : Frag} {H : Hp} {v : V} {x y : Str} (h : Dp K H v (.tuple [.str x, .str y])) : ∃ a, v = .ref a ∧ SqT K H a [.str x, .str y] := by
  obtain ⟨a, xs, rfl, q, all⟩ := dp_tup h
  cases all with
  | cons h1 t =>
    cases t with
    | cons h2 t =>
      cases t
      obtain rfl := dp_str h1
      obtain rfl := dp_str h2
      exact ⟨a, rfl, q⟩
/-! # a def's place and promise -/
def Has (P : Program) (w : World) (K : Frag) (mg : Str → Option Value) (base : Heap) (k : Nat) (x : Str) (ps : List Str) (sp : Sp) : Prop :=
  ∃ (f : Addr) (fd : FuncData), mg x = some (.ref f) ∧ PySem.W.keepIn K (.ref f) = true ∧ Binds K fd ps [] ∧ FnOk P w K mg base CX0 k f fd ps sp
/-- the same, its one argument told by its name -/
def HasK (P : Program) (w : World) (K : Frag) (mg : Str → Option Value) (base : Heap) (k : Nat) (x : Str) (ps : List Str) (sp : Sp) : Prop :=
  ∃ (f : Addr) (fd : FuncData), mg x = some (.ref f) ∧ PySem.W.keepIn K (.ref f) = true ∧ Binds K fd ps [] ∧ KBinds K fd ps ps (fun us ws => us ++ ws) (fun vs zs => vs ++ zs) ∧ FnOk P w K mg base CX0 k f fd ps sp
theorem HasK.has {P : Program} {w : World} {K : Frag} {mg : Str → Option Value} {base : Heap} {k : Nat} {x : Str} {ps : List Str} {sp : Sp} (h : HasK P w K mg base k x ps sp) : Has P w K mg base k x ps sp := by
  obtain ⟨f, fd, a, b, c, _, d⟩ := h
  exact ⟨f, fd, a, b, c, d⟩
theorem has_of {P : Program} {w : World} {K : Frag} {mg : Str → Option Value} {base : Heap} {k : Nat} {x qual : Str} {st : Stmt} {f : Addr} {fd : FuncData} {ps : List Str} {sp : Sp} (F : Fun K x qual st f fd) (g : mg x = some (.ref f)) (b : Binds K fd ps []) (o : FnOk P w K mg base CX0 k f fd ps sp) : Has P w K mg base k x ps sp := ⟨f, fd, g, F.kp, b, o⟩
theorem hasK_of {P : Program} {w : World} {K : Frag} {mg : Str → Option Value} {base : Heap} {k : Nat} {x qual : Str} {st : Stmt} {f : Addr} {fd : FuncData} {ps : List Str} {sp : Sp} (F : Fun K x qual st f fd) (g : mg x = some (.ref f)) (b : Binds K fd ps []) (c : KBinds K fd ps ps (fun us ws => us ++ ws) (fun vs zs => vs ++ zs)) (o : FnOk P w K mg base CX0 k f fd ps sp) : HasK P w K mg base k x ps sp := ⟨f, fd, g, F.kp, b, c, o⟩
section
variable {X : Cx} {CX : CXT} {k : Nat} {f : Addr} {fd : FuncData} {ps ks : List Str} {sp : Sp} {x : Str} {p pos : Pos} {E : XK} {kws : List Keyword} {tk : TA} {g : List Value → List Value → List Value} {gV : List V → List V → List V}
def tCallKw (sp : Sp) (gV : List V → List V → List V) (E : XK) (tk : TA) : TE := fun σ H Q => tk σ H fun zs H2 => sp (gV [] zs) H2 Q E
theorem pe_callKw (F : FnOk X.prog X.w X.K X.mg X.base CX k f fd ps sp) (hr : Room k X.A) (hg : Gl X x) (hm : X.mg x = some (.ref f)) (hk : PySem.W.keepIn X.K (.ref f) = true) (hb : KBinds X.K fd ps ks g gV) (hx : Passes CX X E)
    (hkw : PK X kws tk) (hall : (backToKw pos (keywordEach kws X.env)).all (·.1.isSome) = true := by rfl) (hks : (backToKw pos (keywordEach kws X.env)).filterMap (·.1) = ks := by rfl)
    (hdb : (x == ("__debug__" : Str)) = false := by decide)
    (hpl : ((backTo pos (starEach [] X.env)).any (·.1) || (backToKw pos (keywordEach kws X.env)).any (·.1.isNone)) = false := by rfl) :
    PE X (.Call (.Name x p) [] kws pos) (tCallKw sp gV E tk) := by
  refine ⟨fun pins s σ H Q I h => ?_⟩
  refine wpAny_Call_Name_kw (ld_glob I hg hm ?_ hdb)
  refine PySem.W.callWith_KW0 (h₀ := X.base) I.ok.mod.kin hk hall (thn (hkw.run pos pins s σ H _ I h) fun ws s2 ⟨zs, H2, I2, rz, q2⟩ => ⟨I2.kIn, ?_⟩) hpl
  rw [hks]
  exact run_fnk F hr hb hx I2 .nil rz q2
end
theorem len_cs (x : Str) : x.length = (cs x).length := by
  show x.cps.size = _
  simp
theorem ixN_of {n j : Nat} (h : j < n) : ixN n (j : Int) = some j := by
  unfold ixN
  rw [if_pos (by omega), if_pos (by omega)]
  simp
theorem fm0 {m : Int} (h : 0 < m) (a : Int) : 0 ≤ a.fmod m := by
  rw [Int.fmod_eq_emod_of_nonneg _ (by omega)]
  exact Int.emod_nonneg _ (by omega)
theorem fm1 {m : Int} (h : 0 < m) (a : Int) : a.fmod m < m := by
  rw [Int.fmod_eq_emod_of_nonneg _ (by omega)]
  exact Int.emod_lt_of_pos _ h
/-- a while's word over a natural number -/
theorem while_n {c : TT} {tb : TS} {D : Ends} {σ : L2.St} {H : Hp} (Pv : Nat → L2.St → Hp → Prop) (m : Nat) (h0 : Pv m σ H)
    (hs : ∀ m σ H, Pv m σ H → c σ H fun b H1 => if b = true then ∃ N : L2.St → Hp → Prop, (∀ σ' H', N σ' H' → ∃ m', m' < m ∧ Pv m' σ' H') ∧ tb { D with nx := N, ct := N, bk := D.nx } σ H1 else D.nx σ H1) : tWhile c tb D σ H :=
  ⟨Pv, ⟨m, h0⟩, hs⟩
/-! # cases -/
def tNoE : TE := fun _ _ _ => False
theorem pe_no {X : Cx} {e : Expr} : PE X e tNoE := ⟨fun _ _ _ _ _ _ h => h.elim⟩
/-- True, False as a pattern -/
def rBool (c : Bool) : PatR := fun v _ Q => ∃ b, v = .bl b ∧ Q (if b = c then some [] else none)
theorem pp_bool {X : Cx} {pos : Pos} {c : Bool} : PPt X (.MatchSingleton (.bool c) pos) [] (rBool c) := by
  refine ⟨fun pins s σ H v u Q I r h => ?_⟩
  obtain ⟨b, rfl, q⟩ := h
  obtain rfl : u = Value.bool b := r
  refine wpAny_matchPattern_Singleton_bool ?_
  cases b <;> cases c
  · exact ⟨I, rfl, [], .nil, q⟩
  · exact ⟨I, q⟩
  · exact ⟨I, q⟩
  · exact ⟨I, rfl, [], .nil, q⟩
theorem either_bool {b : Bool} {H : Hp} {Q : Option (List V) → Prop} (h : Q (some [])) : rOr [rBool true, rBool false] (.bl b) H Q := by
  cases b
  · exact ⟨false, rfl, ⟨false, rfl, h⟩⟩
  · exact ⟨true, rfl, h⟩
def rNo : PatR := fun _ _ _ => False
theorem pcs_never {X : Cx} {cases : List MatchCase} : PCs X cases [([], rNo, fun _ _ _ => False)] := ⟨fun _ _ _ _ _ _ _ _ _ _ h => h.elim⟩
def Hit (r : PatR) (y : Str) : Prop := ∀ H Q, Q (some []) → r (.str y) H Q
def Miss (r : PatR) (y : Str) : Prop := ∀ H Q, Q none → r (.str y) H Q
theorem hit_lit {c : Str} : Hit (rLit c) c := fun H Q h => ⟨c, rfl, by rw [if_pos rfl]; exact h⟩
theorem miss_lit {c y : Str} (ne : y ≠ c) : Miss (rLit c) y := fun H Q h => ⟨y, rfl, by rw [if_neg ne]; exact h⟩
theorem hit_or {r : PatR} {rs : List PatR} {y : Str} (h : Hit r y) : Hit (rOr (r :: rs)) y := fun H Q q => h H _ q
theorem hit_or2 {r : PatR} {rs : List PatR} {y : Str} (m : Miss r y) (h : Hit (rOr rs) y) : Hit (rOr (r :: rs)) y := fun H Q q => m H _ (h H Q q)
theorem miss_or {r : PatR} {rs : List PatR} {y : Str} (m : Miss r y) (h : Miss (rOr rs) y) : Miss (rOr (r :: rs)) y := fun H Q q => m H _ (h H Q q)
theorem miss_or0 {y : Str} : Miss (rOr []) y := fun H Q q => q
theorem each_caps {H : Hp} : ∀ {ys : List V} {Q : Option (List V) → Prop}, Q (some ys) → rEach (List.replicate ys.length rCap) ys H Q
  | [], _, h => h
  | y :: ys, Q, h => by
    show rEach (List.replicate ys.length rCap) ys H _
    exact each_caps (ys := ys) (Q := fun o' => match o' with | none => Q none | some more => Q (some ([y] ++ more))) h
theorem case_hit {K : Frag} {n : Nat} {r : PatR} {rs : List PatR} {is : List Nat} {t : TS} {rest : List (List Nat × PatR × TS)} {a : Addr} {c : Str} {ys : List V} {D : Ends} {σ : L2.St} {H : Hp} (hq : SqT K H a (.str c :: ys)) (hh : Hit r c) (h : t D (setAll σ is ys) H)
    (hr : rs = List.replicate ys.length rCap := by rfl) (hn : n = ys.length + 1 := by rfl) : tCases ((is, rSeq K n (r :: rs), t) :: rest) (.ref a) D σ H := by
  subst hr
  subst hn
  refine ⟨a, _, rfl, hq, fun ne => absurd rfl ne, fun _ => ?_⟩
  refine hh H _ ?_
  exact each_caps (Q := fun o' => match o' with | none => tCases rest (.ref a) D σ H | some more => t D (setAll σ is ([] ++ more)) H) h
theorem case_miss {K : Frag} {n : Nat} {r : PatR} {rs : List PatR} {is : List Nat} {t : TS} {rest : List (List Nat × PatR × TS)} {a : Addr} {c : Str} {ys : List V} {D : Ends} {σ : L2.St} {H : Hp} (hq : SqT K H a (.str c :: ys)) (hh : Miss r c ∨ ys.length + 1 ≠ n) (h : tCases rest (.ref a) D σ H) :
    tCases ((is, rSeq K n (r :: rs), t) :: rest) (.ref a) D σ H := by
  rcases hh with hh | ne
  · exact ⟨a, _, rfl, hq, fun _ => h, fun _ => hh H _ h⟩
  · exact ⟨a, _, rfl, hq, fun _ => h, fun e => absurd e ne⟩
theorem ml {c y : Str} {n m : Nat} (ne : y ≠ c := by decide +kernel) : Miss (rLit c) y ∨ n ≠ m := .inl (miss_lit ne)
/-- what a piece's tuple holds -/
theorem pc_two {K : Frag} {H : Hp} {v : V} {k : Str} {d : PyData} (h : Dp K H v (.tuple [.str k, d])) : ∃ a x, v = .ref a ∧ SqT K H a [.str k, x] ∧ Dp K H x d := by
  obtain ⟨a, xs, rfl, hq, all⟩ := dp_tup h
  cases all with
  | cons h1 t1 =>
    obtain rfl := dp_str h1
    cases t1 with
    | cons h2 t2 =>
      cases t2
      exact ⟨a, _, rfl, hq, h2⟩
theorem pc_three {K : Frag} {H : Hp} {v : V} {k : Str} {d e : PyData} (h : Dp K H v (.tuple [.str k, d, e])) : ∃ a x y, v = .ref a ∧ SqT K H a [.str k, x, y] ∧ Dp K H x d ∧ Dp K H y e := by
  obtain ⟨a, xs, rfl, hq, all⟩ := dp_tup h
  cases all with
  | cons h1 t1 =>
    obtain rfl := dp_str h1
    cases t1 with
    | cons h2 t2 =>
      cases t2 with
      | cons h3 t3 =>
        cases t3
        exact ⟨a, _, _, rfl, hq, h2, h3⟩
/-- data that can be laid, no deeper than n -/
def Sh (n : Nat) (d : PyData) : Prop := d.canLay0 = true ∧ d.depth ≤ n
theorem sh_all {n : Nat} : ∀ {ds : List PyData}, (∀ d ∈ ds, Sh n d) → PyData.canLayAll0 ds = true ∧ PyData.depthAll ds ≤ n
  | [], _ => ⟨PyData.canLayAll0.eq_1, by rw [PyData.depthAll.eq_1]; exact Nat.zero_le _⟩
  | d :: ds, h => by
    have h1 := h d (.head _)
    have h2 := sh_all (n := n) (ds := ds) fun e m => h e (.tail _ m)
    exact ⟨by rw [PyData.canLayAll0.eq_2, h1.1, h2.1]; rfl, by rw [PyData.depthAll.eq_2]; exact Nat.max_le.mpr ⟨h1.2, h2.2⟩⟩
theorem sh_lst {n : Nat} {ds : List PyData} (h : ∀ d ∈ ds, Sh n d) : Sh (n + 1) (.list ds) := by
  have z := sh_all h
  exact ⟨by rw [PyData.canLay0.eq_5]; exact z.1, by rw [PyData.depth.eq_1]; omega⟩
theorem sh_tup {n : Nat} {ds : List PyData} (h : ∀ d ∈ ds, Sh n d) : Sh (n + 1) (.tuple ds) := by
  have z := sh_all h
  exact ⟨by rw [PyData.canLay0.eq_6]; exact z.1, by rw [PyData.depth.eq_2]; omega⟩
theorem sh_str {x : Str} (h : PyData.strOk x = true) : Sh 0 (.str x) := ⟨by rw [PyData.canLay0.eq_4]; exact h, Nat.le_of_eq rfl⟩
theorem sh_mono {n m : Nat} {d : PyData} (h : Sh n d) (l : n ≤ m) : Sh m d := ⟨h.1, Nat.le_trans h.2 l⟩
theorem sh_ok {n : Nat} {d : PyData} (h : Sh n d) (l : n ≤ 64 := by decide) : SeqAt.shaped d = true := by
  unfold SeqAt.shaped
  rw [h.1, decide_eq_true (Nat.le_trans h.2 l)]
  rfl
theorem eqv_nil (ds : List PyData) : PyData.eqv (.list ds) (.list []) = ds.isEmpty := by
  cases ds <;> rfl
/-- all of the answers of a walk -/
theorem lc_all {K : Frag} {a D : Addr} {xs : List V} {bs : List Bool} {H : Hp} {σ : L2.St} {vs : List Nat} {g : TG} {te : TE} {Qd : Hp → Prop} (hq : SqL K H a xs) (hD : H D = none) (hb : bs.length = xs.length) (hl : xs.length ≤ 1000)
    (turn : ∀ (i : Nat) (x : V) (b : Bool) (H' : Hp) (Q : VK), xs[i]? = some x → bs[i]? = some b → Same H H' → (∀ H4, Same H' H4 → Q (.bl b) H4) → g x (wipe σ vs) H' fun σ2 H2 => wipe σ2 vs = wipe σ vs ∧ te σ2 H2 Q)
    (hd : ∀ H', Same H H' → SqL K H' D (bs.map V.bl) → Qd H') :
    ∃ W : Nat → Nat → Hp → Prop, (∃ m, W 0 m (L2.upd H D (.lst []))) ∧ ∀ i m H, W i m H →
      ((Itl K a).stop i H ∧ Qd H) ∨ ((Itl K a).go i H ∧ ∃ Nx : Hp → Prop, (∀ H', Nx H' → ∃ m', m' < m ∧ W (i + 1) m' H') ∧ ∀ x H', (Itl K a).yld i H x H' → g x (wipe σ vs) H' fun σ2 H2 => wipe σ2 vs = wipe σ vs ∧ tYes σ2 H2 fun b H3 =>
        if b = true then te σ2 H3 fun y H4 => ∃ acc, H4 D = some (.lst acc) ∧ acc.length < sizeLine ∧ Nx (L2.upd H4 D (.lst (acc ++ [y]))) else Nx H3) := by
  refine lc_it (walk_list (xs := xs)) (fun i H' => Same H H' ∧ H' D = some (.lst ((bs.take i).map V.bl))) ⟨same_upd hD, upd_same⟩ (fun i H' _ e => e.1.seq hq) (fun i x H' H2 hi e y => ?_) (fun H' e => ?_)
  · obtain ⟨rfl, hx⟩ := y
    obtain ⟨s1, h1⟩ := e
    obtain ⟨b, hbi⟩ : ∃ b, bs[i]? = some b := ⟨_, List.getElem?_eq_getElem (by omega)⟩
    refine turn i x b H2 _ hx hbi s1 fun H4 s4 => ⟨_, s4 _ _ h1, ?_, same_upd2 (s1.trans s4) hD, ?_⟩
    · rw [List.length_map, List.length_take, sizeLine_eq]
      omega
    · rw [upd_same, take_snoc hbi, List.map_append]
      rfl
  · obtain ⟨s1, h1⟩ := e
    rw [← hb, List.take_length] at h1
    exact hd H' s1 (SqL.of h1)
def hide (H : Hp) (W : Addr) : Hp := fun b => if b = W then none else H b
theorem hide_same {H : Hp} {W : Addr} : Same (hide H W) H := fun b o h => by
  unfold hide at h
  by_cases e : b = W
  · rw [if_pos e] at h; cases h
  · rw [if_neg e] at h; exact h
theorem hide_upd {H : Hp} {W : Addr} {o : HO} : Same (hide H W) (hide (L2.upd H W o) W) := fun b u h => by
  unfold hide at h ⊢
  by_cases e : b = W
  · rw [if_pos e] at h; cases h
  · rw [if_neg e] at h ⊢
    rw [upd_ne e]
    exact h
theorem hide_ne {H : Hp} {W b : Addr} {o : HO} (h : H b = some o) (ne : b ≠ W) : hide H W b = some o := by
  unfold hide
  rw [if_neg ne]
  exact h
theorem hide_mono {H H' : Hp} {W : Addr} (s : Same H H') : Same (hide H W) (hide H' W) := fun b u h => by
  unfold hide at h ⊢
  by_cases e : b = W
  · rw [if_pos e] at h; cases h
  · rw [if_neg e] at h ⊢
    exact s b u h
/-- what was there before W came -/
theorem hide_of {H H' : Hp} {W : Addr} (s : Same H H') (h : H W = none) : Same H (hide H' W) := fun b u e => by
  unfold hide
  rw [if_neg (ne_of_none e h)]
  exact s b u e
end Qb
end PySem
namespace PySem
namespace Qb
open PySem.W PySem.Calls PyProof.Rows L2
/-! # errors that are caught and kept -/
/-- the error that was caught, at a: its class and its dict -/
def ErO (cls : Value) (d : Option Addr) (a : Addr) : HO := .ext fun h => ∃ (oe : Obj) (vs : Array Value), h.get? a = some oe ∧ Zc cls d oe ∧ oe.data = .fields vs
theorem erO_ok {P : Program} {w : World} {H : Hp} {h : Heap} {a : Addr} {cls : Value} {d : Option Addr} {oe : Obj} {vs : Array Value} (e : h.get? a = some oe) (z : Zc cls d oe) (f : oe.data = .fields vs) : ObjOk P w H h a (ErO cls d a) :=
  ⟨⟨oe, vs, e, z, f⟩, ⟨_, e⟩, fun h1 h2 ⟨o1, v1, e1, z1, f1⟩ k => ⟨o1, v1, k _ e1, z1, f1⟩⟩
section
variable {X : Cx} {pins : List (Addr × Obj)} {σ : L2.St} {H : Hp} {s : Shared}
/-- a thing that is there and was not spoken of is spoken of from here on -/
theorem inv_track {a : Addr} {o : HO} {oe : Obj} {vs : Array Value} (I : Inv X pins σ H s) (na : H a = none) (ha : s.heap.get? a = some oe) (hd : oe.data = .fields vs) (nL : a ≠ X.env.locals)
    (n0 : ∀ ob, X.s_0.heap.get? a ≠ some ob) (np : ∀ p ∈ X.pn ++ pins, p.1 ≠ a) (new : ObjOk X.prog X.w (L2.upd H a o) s.heap a o) : Inv X pins σ (L2.upd H a o) s where
  ok := I.ok
  os := I.os
  bare := I.bare
  base := {
    keep := I.base.keep
    slot := I.base.slot
    free := fun b ob e n hx => by
      rw [upd_ne (fun z : b = a => n0 ob (z ▸ e))]
      exact I.base.free b ob e n hx
    there := I.base.there
    tups := fun b xs e => by
      have q := I.base.tups b xs e
      rw [upd_ne (ne_of_none q na)]
      exact q
    frzs := fun b ob u e => by
      have q := I.base.frzs b ob u e
      rw [upd_ne (ne_of_none q na)]
      exact q
    tbls := fun b ps e => by
      obtain ⟨more, q⟩ := I.base.tbls b ps e
      exact ⟨more, by rw [upd_ne (ne_of_none q na)]; exact q⟩ }
  loc := I.loc
  cell := I.cell
  free := by
    rw [upd_ne (Ne.symm nL)]
    exact I.free
  freeC := fun x c e => by
    rw [upd_ne (fun z : c = a => by
      obtain ⟨v, ob, h1, h2⟩ := I.cell x c e
      rw [z, ha] at h1
      cases h1
      rw [hd] at h2
      cases h2)]
    exact I.freeC x c e
  pin := fun p hp => by
    obtain ⟨e, n, r⟩ := I.pin p hp
    exact ⟨e, by rw [upd_ne (np p hp)]; exact n, r⟩
  hok := fun b u e => by
    by_cases hb : b = a
    · subst hb
      rw [upd_same] at e
      cases e
      exact new
    · rw [upd_ne hb] at e
      refine (I.hok b u e).stay (fun c v _ q => q) (fun c q => ?_) (fun c xs q => ?_)
      · rw [upd_ne (ne_of_none q na)]
        exact q
      · rw [upd_ne (ne_of_none q na)]
        exact q
  len := I.len
theorem inv_into (a : Addr) (I : Inv X pins σ H s) : Inv (X.suite a (X.pn ++ pins)) [] σ H s where
  ok := I.ok.suite a _
  os := I.os
  bare := I.bare
  base := I.base
  loc := I.loc
  cell := I.cell
  free := I.free
  freeC := I.freeC
  pin := fun p hp => I.pin p (by rw [List.append_nil] at hp; exact hp)
  hok := I.hok
  len := I.len
theorem inv_outof {a : Addr} {qs : List (Addr × Obj)} (good : X.Ok) (I : Inv (X.suite a (X.pn ++ pins)) qs σ H s) : Inv X pins σ H s where
  ok := good
  os := I.os
  bare := I.bare
  base := I.base
  loc := I.loc
  cell := I.cell
  free := I.free
  freeC := I.freeC
  pin := fun p hp => I.pin p (List.mem_append_left _ hp)
  hok := I.hok
  len := I.len
end
/-- what 'except x as n' wishes, where it takes all that comes: slot i is n's, the error stands in the heap from here on -/
def wKeep (K : Frag) (c : Value) (i : Nat) (ts : Addr → Value → Option Addr → TS) (D : Ends) : WX := fun cls d σ H =>
  exmOne K cls c = some true ∧ ∀ a, H a = none → ts a cls d { nx := fun σ' H' => D.nx (σ'.set i none) H', rt := D.rt, bk := fun σ' H' => D.bk (σ'.set i none) H', ct := fun σ' H' => D.ct (σ'.set i none) H' } (σ.set i (some (.ref a))) (L2.upd H a (ErO cls d a))
section
variable {X : Cx} {x n : Str} {c : Value} {i : Nat} {body more : List Stmt} {b0 : Stmt} {p1 p2 p3 : Pos} {tb : WX → TS} {ts : Addr → Value → Option Addr → TS}
theorem ps_try_keep (stk : X.stack = X.env :: X.outer) (frm : X.env.frame = some X.env.locals) (noex : X.ex = []) (nd : X.N.Nodup) (hi : X.N[i]? = some n) (loc : X.env.kindOf n = some .local) (nm : Names X x c)
    (hb : ∀ (W : WX) (pn : List (Addr × Obj)) (xe : Value → Shared → Prop), Takes (X.tr pn xe) W → PassesOwn (model X.prog X.w) X.A X.env xe → PSs (X.tr pn xe) body (tb W))
    (hsu : ∀ (a : Addr) (cls : Value) (d : Option Addr) (pn : List (Addr × Obj)), PSs (X.suite a pn) (b0 :: more) (ts a cls d)) :
    PS X (.Try body [.ExceptHandler (some (.Name x p1)) (some n) (b0 :: more) p2] [] [] p3) (fun D σ H => tb (wKeep X.K c i ts D) D σ H) := by
  refine ⟨fun pins s σ H D I h => ?_⟩
  have good := I.ok
  have allF : X.A.frames = some (X.env :: X.outer) := good.frames.trans (congrArg some stk)
  have lo : L2.Loc X.env.scope n := .inl loc
  have caught : ∀ (u : Value) (z : Shared), XE (X.tr (X.pn ++ pins) fun e z0 => wpAny (model X.prog X.w) X.A (noteFrame e X.env) (fun _ z1 => wpAny (model X.prog X.w) X.A (setFlight e none) (fun _ z2 =>
      wpAny (model X.prog X.w) X.A (handleBy e X.env [.ExceptHandler (some (.Name x p1)) (some n) (b0 :: more) p2]) (SP X pins D) X.xe z2) X.xe z1) X.xe z0) (wKeep X.K c i ts D) u z →
      wpAny (model X.prog X.w) X.A (noteFrame u X.env) (fun _ z1 => wpAny (model X.prog X.w) X.A (setFlight u none) (fun _ z2 =>
      wpAny (model X.prog X.w) X.A (handleBy u X.env [.ExceptHandler (some (.Name x p1)) (some n) (b0 :: more) p2]) (SP X pins D) X.xe z2) X.xe z1) X.xe z := by
    rintro u z ⟨e, B, sI, qs, σ1, H1, cls, d, rfl, J0, inB, ups, air, ne, sameOs, gens, ofC, wish⟩
    have J : Inv X pins σ1 H1 sI := J0.ofTry good
    have air2 : Sky B (X.env :: X.outer) e (Zc cls d) X.env.locals z.heap := stk ▸ air
    refine Sky.land Zc.steady allF frm air2 fun h1 fly ups1 => ?_
    obtain ⟨oe1, vs1, get1, zc1, dat1⟩ := fly.there
    have notF : e ∉ frs (X.env :: X.outer) := fun hm => by
      obtain ⟨_, ob, eo, nofl⟩ := fly.2.2.1.mem hm
      rw [get1] at eo
      cases eo
      exact nofl _ dat1
    have notL : e ≠ X.env.locals := fun q => notF (List.mem_filterMap.mpr ⟨X.env, List.mem_cons_self, by rw [frm, q]⟩)
    have noI : sI.heap.get? e = none := by
      cases q : sI.heap.get? e with
      | none => rfl
      | some ob =>
        have q2 := inB e ob q (by show e ∉ frs X.stack; rw [stk]; exact notF)
        rw [fly.2.1] at q2
        cases q2
    have no0 : ∀ ob, X.s_0.heap.get? e ≠ some ob := fun ob q => by
      obtain ⟨ob2, q2⟩ := J.base.there e ob q (by rw [noex]; exact fun y => nomatch y)
      rw [noI] at q2
      cases q2
    have noP : ∀ p ∈ X.pn ++ pins, p.1 ≠ e := fun p hp q => by
      have q2 := (J.pin p hp).1
      rw [q, noI] at q2
      cases q2
    have S1 : Inv (X.suite e (X.pn ++ pins)) [] σ1 H1 { z with heap := h1 } := inv_into e (J.landed inB fly.1 (ups.trans ups1) sameOs gens)
    refine wpAny_handleBy_cons (codeAny_handlers_test ?_) (by intro q; cases q)
    have LT : Looks (model X.prog X.w) h1 (typeOf (.ref e)) cls := fun A Q E s k q => wpAny_typeOf_ref (k _ _ get1) (by rw [zc1.1]; exact q)
    have LM := exm_one (M := model X.prog X.w) S1.kIn LT ofC
    have named : ∀ {Q : Value → Shared → Prop} {E : Value → Shared → Prop}, Q c { z with heap := h1 } → wpAny (model X.prog X.w) (X.A.mark (some (.ref e))) (eval (.Name x p1) X.env) Q E { z with heap := h1 } := fun {Q E} q => by
      obtain ⟨hg, hdbg, hm | ⟨hm, hv, hnn⟩⟩ := nm
      · exact ld_glob (X := X.suite e (X.pn ++ pins)) S1 hg hm q hdbg
      · exact ld_blt (X := X.suite e (X.pn ++ pins)) S1 hg hm hv q hnn hdbg
    refine named (LM.here ?_)
    refine codeAny_handlers_suite_as ?_
    refine HandSPX.lands_againZ fly fun h2 fly2 ups2 => ?_
    have J2 : Inv X pins σ1 H1 { z with heap := h2 } := J.landed inB fly2.1 ((ups.trans ups1).trans ups2) sameOs gens
    obtain ⟨oe2, vs2, get2, zc2, dat2⟩ := fly2.there
    have S2 := inv_into e (inv_track (o := ErO cls d e) J2 ne get2 dat2 notL no0 noP (erO_ok get2 zc2 dat2))
    refine store_ok (X := X.suite e (X.pn ++ pins)) (v := .ref e) S2 nd hi lo rfl (fun s3 S3 => ?_) (.inr loc)
    refine wpAny_mono ((hsu e cls d (X.pn ++ pins)).run [] s3 _ _ _ S3 (wish e ne)) (fun fl s4 end4 => ?_) (fun _ _ y => y.elim)
    have bye : ∀ {σ4 : L2.St} {H4 : Hp} {Q : Shared → Prop}, Inv (X.suite e (X.pn ++ pins)) [] σ4 H4 s4 → (∀ s5, Inv X pins (σ4.set i none) H4 s5 → Q s5) →
        wpAny (model X.prog X.w) X.A (do bindName X.env n .none; unbindBehindTheSuite X.env n p2) (fun _ s5 => Q s5) X.xe s4 := fun {σ4 H4 Q} S4 q => gone_ok (inv_outof good S4) nd hi loc q
    cases fl with
    | next =>
      obtain ⟨σ4, H4, S4, q4⟩ := end4
      exact bye S4 fun s5 J5 => ⟨_, _, J5, q4⟩
    | brk =>
      obtain ⟨σ4, H4, S4, q4⟩ := end4
      exact bye S4 fun s5 J5 => ⟨_, _, J5, q4⟩
    | cont =>
      obtain ⟨σ4, H4, S4, q4⟩ := end4
      exact bye S4 fun s5 J5 => ⟨_, _, J5, q4⟩
    | ret u =>
      obtain ⟨v4, σ4, H4, S4, r4, q4⟩ := end4
      exact bye S4 fun s5 J5 => ⟨_, _, _, J5, r4, q4⟩
  refine wpAny_Try_except (wpAny_mono ((hb (wKeep X.K c i ts D) (X.pn ++ pins) _ caught PassesOwn.looking).run [] s σ H D (I.toTry _) h) (fun fl s1 end1 => ?_) fun _ _ y => y)
  cases fl with
  | next =>
    obtain ⟨σ1, H1, J1, q⟩ := end1
    exact wpAny_execs_nil ⟨σ1, H1, J1.ofTry good, q⟩
  | brk =>
    obtain ⟨σ1, H1, J1, q⟩ := end1
    exact ⟨σ1, H1, J1.ofTry good, q⟩
  | cont =>
    obtain ⟨σ1, H1, J1, q⟩ := end1
    exact ⟨σ1, H1, J1.ofTry good, q⟩
  | ret u =>
    obtain ⟨v, σ1, H1, J1, r, q⟩ := end1
    exact ⟨v, σ1, H1, J1.ofTry good, r, q⟩
end
/-! # the classes of errors -/
/-- what the written part says of one class of errors: its name x, its object at C, behind itself ms in the order of lookup; fI: the one __init__ -/
structure EC (K : Frag) (mg : Str → Option Value) (fI : Addr) (x : Str) (C : Addr) (ms : List Value) : Prop where
  gC : mg x = some (.ref C)
  cls : ∃ nm q N bs sn sub ab col dd k0 k1 k2 k3 k5,
    K.lookup C = some (excClassObj nm q C N bs ms true sn sub ab col dd k0 k1 k2 k3 k5 "ValueError.__new__")
  rv : HandSPX.refsVE ms = true
  sa : findIn K (.ref C) "__setattr__" = some (some (.builtin "object.__setattr__"))
  ga : findIn K (.ref C) "__getattribute__" = some (some (.builtin "BaseException.__getattribute__"))
  gg : findIn K (.ref C) "__getattr__" = some none
  no : findIn K (.ref C) "value" = some none
  iC : findIn K (.ref C) "__init__" = some (some (.ref fI))
  kC : keepIn K (.ref C) = true
  cc : findIn K (.ref C) "__class__" = some (some (.builtin "object.__class__"))
structure EG (K : Frag) (fI : Addr) : Prop where
  tI : typeIn K (.ref fI) = some (.type "function")
  hn : specialIn K (.builtin "object.__class__") "__get__" = some (some (.builtin "getset_descriptor.__get__"))
  ht : takesIn K (.builtin "object.__class__") = some true
theorem ec_mk {K : Frag} {mg : Str → Option Value} {h : Heap} {fI C N : Addr} {x nm q : Str} {ms bs : List Value} {sn : List Str} {sub : List Value} {ab : Bool} {col : Option Bool} {dd : Option Addr} {k0 k1 k2 k3 k5 : Option Value}
    (X : K.In h) (G : h.Ns mainGlobals mg) (a : nsIn K mainGlobals x = some (some (.ref C))) (l : K.lookup C = some (excClassObj nm q C N bs ms true sn sub ab col dd k0 k1 k2 k3 k5 "ValueError.__new__")) (rv : HandSPX.refsVE ms = true)
    (sa : findIn K (.ref C) "__setattr__" = some (some (.builtin "object.__setattr__"))) (ga : findIn K (.ref C) "__getattribute__" = some (some (.builtin "BaseException.__getattribute__"))) (gg : findIn K (.ref C) "__getattr__" = some none)
    (no : findIn K (.ref C) "value" = some none) (iC : findIn K (.ref C) "__init__" = some (some (.ref fI))) (kC : keepIn K (.ref C) = true) (cc : findIn K (.ref C) "__class__" = some (some (.builtin "object.__class__"))) : EC K mg fI x C ms :=
  ⟨mg_of X G a, ⟨nm, q, N, bs, sn, sub, ab, col, dd, k0, k1, k2, k3, k5, l⟩, rv, sa, ga, gg, no, iC, kC, cc⟩
section
variable {K : Frag} {mg : Str → Option Value} {fI C : Addr} {x : Str} {ms : List Value}
theorem EC.clsIs (T : EC K mg fI x C ms) : ∃ cd : ClassData, clsIn K C = some cd ∧ cd.mro = .ref C :: ms ∧ cd.hasDict = true := by
  obtain ⟨nm, q, N, bs, sn, sub, ab, col, dd, k0, k1, k2, k3, k5, hC⟩ := T.cls
  refine ⟨{ name := nm, bases := bs, mro := .ref C :: ms, ns := N, qualname := q, hasDict := true, slotNames := sn, subclasses := sub, abstract := ab, collection := col, hasDel := false }, ?_, rfl, rfl⟩
  unfold clsIn
  rw [hC] <;> rfl
theorem EC.mro (T : EC K mg fI x C ms) (b : Value) : mroIn K C b = some ((Value.ref C :: ms).contains b) := by
  obtain ⟨cd, h1, h2, _⟩ := T.clsIs
  unfold mroIn
  rw [h1, Option.bind_some, h2]
  rfl
theorem EC.below (T : EC K mg fI x C ms) (n : String) (h : HandSPX.veTail.contains (.type n) = true) : mroIn K C (.type n) = some true := by
  rw [T.mro, List.contains_cons, HandSPX.refsVE_contains n ms T.rv, h, Bool.or_true]
theorem EC.ty (T : EC K mg fI x C ms) : typeIn K (.ref C) = some (.type "type") := by
  obtain ⟨nm, q, N, bs, sn, sub, ab, col, dd, k0, k1, k2, k3, k5, hC⟩ := T.cls
  show (K.lookup C).map (·.cls) = _
  rw [hC] <;> rfl
theorem EC.oex (T : EC K mg fI x C ms) : OexC K C := by
  obtain ⟨nm, q, N, bs, sn, sub, ab, col, dd, k0, k1, k2, k3, k5, hC⟩ := T.cls
  exact { cls := ⟨nm, q, N, bs, ms, sn, sub, ab, col, dd, k0, k1, k2, k3, k5, hC, T.rv⟩, sa := T.sa, exC := T.below "BaseException" (by decide +kernel), tyC := T.ty, kC := T.kC }
theorem EC.kit (T : EC K mg fI x C ms) (G : EG K fI) {e : Addr} {oe : Obj} {od : Option Obj} : KitX K (.ref e) (.ref C) (fun h => InstAt h e oe C od) := by
  obtain ⟨cd, h1, _, _⟩ := T.clsIs
  exact kitx_exc (by rw [h1]; rfl) T.ga T.gg (T.below "BaseException" (by decide +kernel)) T.cc G.hn G.ht (T.below "object" (by decide +kernel))
/-- isinstance of an error of the class at C against another class of errors -/
theorem EC.one (T : EC K mg fI x C ms) {x' : Str} {D : Addr} {ms' : List Value} (T' : EC K mg fI x' D ms') : kitOne K (.ref C) (.ref D) = some ((Value.ref C :: ms).contains (.ref D)) := by
  unfold kitOne
  by_cases h : (Value.ref C == Value.ref D) = true
  · rw [if_pos h, List.contains_cons]
    have e : C = D := Value.ref.inj (beq_iff_eq.mp h)
    subst e
    simp
  · rw [if_neg h]
    obtain ⟨cd, h1, _, _⟩ := T'.clsIs
    show (if ((clsIn K D).isSome && typeIn K (.ref D) == some (.type "type")) = true then subIn K (.ref C) (.ref D) else none) = _
    rw [if_pos (by rw [h1, T'.ty]; rfl)]
    exact T.mro _
theorem EC.oneT (T : EC K mg fI x C ms) : kitOne K (.ref C) (.type "ValueError") = some true := by
  unfold kitOne
  rw [if_neg (fun q => Value.noConfusion (beq_iff_eq.mp q))]
  show (if kitMeta "ValueError" = true then subIn K (.ref C) (.type "ValueError") else none) = _
  rw [if_pos (by decide +kernel)]
  exact T.below "ValueError" (by decide +kernel)
/-- 'except D' takes an error of the class at C, D behind it in the order of lookup -/
theorem EC.takes (T : EC K mg fI x C ms) {x' : Str} {D : Addr} {ms' : List Value} (T' : EC K mg fI x' D ms') (h : (Value.ref C :: ms).contains (.ref D) = true) : exmOne K (.ref C) (.ref D) = some true := by
  have e1 : (subIn K (.ref D) (.type "BaseException") == some true) = true := by
    rw [show subIn K (.ref D) (.type "BaseException") = some true from T'.below "BaseException" (by decide +kernel)]
    rfl
  obtain ⟨cd, h1, _, _⟩ := T'.clsIs
  have e2 : ((clsIn K D).isSome && typeIn K (.ref D) == some (.type "type")) = true := by
    rw [h1, T'.ty]
    rfl
  show (if (subIn K (.ref D) (.type "BaseException") == some true) = true then (if ((clsIn K D).isSome && typeIn K (.ref D) == some (.type "type")) = true then subIn K (.ref C) (.ref D) else none) else none) = some true
  rw [if_pos e1, if_pos e2]
  show mroIn K C (.ref D) = some true
  rw [T.mro, h]
end
/-- at e: a caught error of the class at C that holds v -/
def ErrV (H : Hp) (e C : Addr) (v : V) : Prop := ∃ d, H e = some (ErO (.ref C) (some d) e) ∧ H d = some (.xd [(("value" : Str), v)])
theorem ErrV.same {H H' : Hp} {e C : Addr} {v : V} (h : ErrV H e C v) (s : Same H H') : ErrV H' e C v := by
  obtain ⟨d, h1, h2⟩ := h
  exact ⟨d, s _ _ h1, s _ _ h2⟩
theorem errv_inst {X : Cx} {pins : List (Addr × Obj)} {σ : L2.St} {H : Hp} {s : Shared} {C e : Addr} {v : V} (I : Inv X pins σ H s) (h : ErrV H e C v) : ∃ (oe od : Obj), InstAt s.heap e oe C (some od) ∧ (∃ u, lookIn "value" od = some (some u) ∧ RelV v u) := by
  obtain ⟨d, h1, h2⟩ := h
  have z1 : ObjOk X.prog X.w H s.heap e (ErO (.ref C) (some d) e) := I.hok e _ h1
  obtain ⟨⟨oe, vs, ge, zc, hf⟩, _, _⟩ := z1
  have z2 : ObjOk X.prog X.w H s.heap d (.xd [(("value" : Str), v)]) := I.hok d _ h2
  obtain ⟨mA, hns, hr⟩ := z2
  obtain ⟨od, hd, hl⟩ := lookIn_ns hns
  have l : List.lookup ("value" : Str) [(("value" : Str), v)] = some v := by simp [List.lookup]
  obtain ⟨u, hu, ru⟩ := RelO.some_of (v := v) (o := mA "value") (by rw [← l]; exact hr "value")
  exact ⟨oe, od, ⟨ge, zc.1, by unfold notCls; rw [hf] <;> rfl, by rw [zc.2]; exact hd⟩, u, by rw [hl, hu], ru⟩
/-- e.value, e an error -/
def tErrW (K : Frag) (mg : Str → Option Value) (fI : Addr) (te : TE) : TE := fun σ H Q => te σ H fun y H1 =>
  ∃ (e C : Addr) (v : V) (x : Str) (ms : List Value), y = .ref e ∧ EC K mg fI x C ms ∧ ErrV H1 e C v ∧ Q v H1
/-- isinstance(e, c), e an error -/
def rIsErrW (K : Frag) (mg : Str → Option Value) (fI : Addr) : List V → Hp → VK → Prop := fun xs H Q =>
  ∃ (e C : Addr) (v c : V) (u : Value) (b : Bool) (x : Str) (ms : List Value), xs = [.ref e, c] ∧ ClsV c u ∧ EC K mg fI x C ms ∧ ErrV H e C v ∧ kitOne K (.ref C) u = some b ∧ Q (.bl b) H
/-- what __init__ does for an error that is being made -/
def spInit (K : Frag) : Sp := fun vs H Q _ => ∃ (a C : Addr) (v : V), vs = [.ref a, v] ∧ OexC K C ∧ findIn K (.ref C) "value" = some none ∧ H a = some (exo a C none) ∧
  ∀ dx, H dx = none → dx ≠ a → Q .non (L2.upd (L2.upd H dx (exd dx [(("value" : Str), v)])) a (exo a C (some dx)))
section
variable {X : Cx} {fI C : Addr} {x : Str} {ms : List Value} {te : TE} {ta : TA} {e : Expr} {p pos : Pos}
theorem pe_errw (he : PE X e te) (hb : attributeBase e "value" X.env (eval e X.env) = eval e X.env := by rfl) :
    PE X (.Attribute e "value" pos) (tErrW X.K X.mg fI te) := by
  refine ⟨fun pins s σ H Q I h => attr_of hb (thn (he.run pins s σ H _ I h) fun u s1 hh => ?_)⟩
  obtain ⟨y, H1, I1, ry, e1, C1, v, x1, ms1, ey, T, er, q⟩ := hh
  subst ey
  obtain rfl : u = Value.ref e1 := ry
  obtain ⟨oe, od, J, u, hu, ru⟩ := errv_inst I1 er
  obtain ⟨cd, h1, h2, h3⟩ := T.clsIs
  have hd : hasDictIn X.K C1 = true := by
    show (clsIn X.K C1).any (·.hasDict) = true
    rw [h1]
    exact h3
  exact HandSPX.exc_get I1.kIn J T.ga T.gg (T.below "BaseException" (by decide +kernel)) (findObj_own hd T.no rfl hu) (handed_of ru) ⟨v, H1, I1.tok _, ru, q⟩
theorem call_isErrW (G : EG X.K fI) : CallR X (.builtin "isinstance") (rIsErrW X.K X.mg fI) := by
  intro pins s σ H xs us Q I r h
  obtain ⟨e, C, v, c, w, b, x, ms, rfl, k, T, er, ek, q⟩ := h
  obtain ⟨u1, u2, rfl, r1, r2⟩ := vals2 r
  obtain rfl : u1 = Value.ref e := r1
  have e2 := k.eq r2
  subst e2
  obtain ⟨oe, od, J, _⟩ := errv_inst I er
  exact kia_one (T.kit G) I.kIn J ek (fun z => nomatch z) fun tk => ⟨.bl b, H, I.tok tk, rfl, q⟩
end
/-- the error that was made, and let go -/
theorem init_end {K : Frag} {C : Addr} {v : V} {H1 : Hp} {Q : XK} (T : OexC K C) (no : findIn K (.ref C) "value" = some none)
    (q : ∀ d, H1 d = none → Q (.ref C) (some d) (L2.upd H1 d (.xd [(("value" : Str), v)]))) : [v].length ≤ 1000 ∧ ∀ a, H1 a = none → spInit K (.ref a :: ([v] ++ [])) (L2.upd H1 a (exo a C none))
      (fun y H2 => y = .non ∧ ∃ (d : Addr) (fs : List (Str × V)), H2 a = some (exo a C (some d)) ∧ H2 d = some (exd d fs) ∧ H1 d = none ∧ Q (.ref C) (some d) (L2.upd (del H2 a) d (.xd fs))) (fun _ _ _ => False) := by
  refine ⟨(by show 1 ≤ 1000; decide), fun a na => ⟨a, C, v, rfl, T, no, upd_same, fun dx nd ne => ⟨rfl, dx, [(("value" : Str), v)], upd_same, ?_, ?_, ?_⟩⟩⟩
  · rw [upd_ne ne, upd_same]
  · rw [upd_ne ne] at nd
    exact nd
  · rw [upd_ne ne] at nd
    have z := q dx nd
    refine cast (congrArg _ ?_) z
    funext b
    by_cases h1 : b = dx
    · rw [h1, upd_same, upd_same]
    · rw [upd_ne h1, upd_ne h1]
      by_cases h2 : b = a
      · rw [h2, del_same]
        exact na
      · rw [del_ne h2, upd_ne h2, upd_ne h1, upd_ne h2]
end Qb
end PySem
namespace PySem
namespace Qb
open PySem.W PySem.Calls PyProof.Rows L2
/-! # things that share no list: S holds the places of their lists -/
mutual
inductive Ow (K : Frag) (H : Hp) : V → PyData → List Addr → Prop where
  | non : Ow K H .non .none []
  | bl (b : Bool) : Ow K H (.bl b) (.bool b) []
  | int (i : Int) : Ow K H (.int i) (.int i) []
  | str (x : Str) : Ow K H (.str x) (.str x) []
  | lst {a : Addr} {xs : List V} {ds : List PyData} {S : List Addr} (h : H a = some (.lst xs)) (al : OwAll K H xs ds S) (n : a ∉ S) : Ow K H (.ref a) (.list ds) (a :: S)
  | tup {a : Addr} {xs : List V} {ds : List PyData} {S : List Addr} (h : SqT K H a xs) (al : OwAll K H xs ds S) : Ow K H (.ref a) (.tuple ds) S
inductive OwAll (K : Frag) (H : Hp) : List V → List PyData → List Addr → Prop where
  | nil : OwAll K H [] [] []
  | cons {v : V} {vs : List V} {d : PyData} {ds : List PyData} {S T : List Addr} (h : Ow K H v d S) (t : OwAll K H vs ds T) (n : ∀ b ∈ S, b ∉ T) : OwAll K H (v :: vs) (d :: ds) (S ++ T)
end
/-- H' is H but at the places S -/
def But (S : List Addr) (H H' : Hp) : Prop := ∀ b u, H b = some u → b ∉ S → H' b = some u
/-- lists stand at all places S -/
def Lis (S : List Addr) (H : Hp) : Prop := ∀ b ∈ S, ∃ xs, H b = some (.lst xs)
section
variable {K : Frag} {H H' H'' : Hp}
theorem But.of (s : Same H H') (S : List Addr) : But S H H' := fun b u e _ => s b u e
theorem But.refl (S : List Addr) : But S H H := fun _ _ e _ => e
theorem But.more {S T : List Addr} (h : But S H H') (l : ∀ b ∈ S, b ∈ T) : But T H H' := fun b u e n => h b u e fun m => n (l b m)
theorem But.trans {S : List Addr} (h : But S H H') (h' : But S H' H'') : But S H H'' := fun b u e n => h' b u (h b u e n) n
theorem But.put {a : Addr} {o : HO} : But [a] H (L2.upd H a o) := fun b u e n => by
  rw [upd_ne (fun z => n (by rw [z]; exact .head _))]
  exact e
theorem ow_lis {v : V} {d : PyData} {S : List Addr} (h : Ow K H v d S) : Lis S H :=
  Ow.rec (motive_1 := fun _ _ S _ => Lis S H) (motive_2 := fun _ _ S _ => Lis S H) (fun b m => by cases m) (fun _ b m => by cases m) (fun _ b m => by cases m) (fun _ b m => by cases m)
    (fun h _ _ ih b m => by
      rcases List.mem_cons.mp m with rfl | m
      · exact ⟨_, h⟩
      · exact ih b m) (fun _ _ ih => ih) (fun b m => by cases m) (fun _ _ _ i1 i2 b m => (List.mem_append.mp m).elim (i1 b) (i2 b)) h
theorem owAll_lis : ∀ {vs : List V} {ds : List PyData} {S : List Addr}, OwAll K H vs ds S → Lis S H
  | _, _, _, .nil => fun b m => by cases m
  | _, _, _, .cons h t _ => fun b m => (List.mem_append.mp m).elim (ow_lis h b) (owAll_lis t b)
theorem sqT_but {S : List Addr} {a : Addr} {xs : List V} (f : But S H H') (l : Lis S H) (h : SqT K H a xs) : SqT K H' a xs := by
  rcases h with (h | ⟨o, h⟩) | h
  · refine .inl (.inl (f _ _ h fun m => ?_))
    obtain ⟨ys, e⟩ := l _ m
    rw [h] at e
    cases e
  · refine .inl (.inr ⟨o, f _ _ h fun m => ?_⟩)
    obtain ⟨ys, e⟩ := l _ m
    rw [h] at e
    cases e
  · exact .inr h
theorem ow_frame {S : List Addr} (f : But S H H') (l : Lis S H) {v : V} {d : PyData} {T : List Addr} (h : Ow K H v d T) : (∀ b ∈ T, b ∉ S) → Ow K H' v d T :=
  Ow.rec (motive_1 := fun v d T _ => (∀ b ∈ T, b ∉ S) → Ow K H' v d T) (motive_2 := fun vs ds T _ => (∀ b ∈ T, b ∉ S) → OwAll K H' vs ds T) (fun _ => .non) (fun b _ => .bl b) (fun i _ => .int i) (fun x _ => .str x)
    (fun h _ n ih m => .lst (f _ _ h (m _ (.head _))) (ih fun b mb => m b (.tail _ mb)) n) (fun h _ ih m => .tup (sqT_but f l h) (ih m)) (fun _ => .nil)
    (fun _ _ n i1 i2 m => .cons (i1 fun b mb => m b (List.mem_append_left _ mb)) (i2 fun b mb => m b (List.mem_append_right _ mb)) n) h
theorem owAll_frame {S : List Addr} (f : But S H H') (l : Lis S H) : ∀ {vs : List V} {ds : List PyData} {T : List Addr}, OwAll K H vs ds T → (∀ b ∈ T, b ∉ S) → OwAll K H' vs ds T
  | _, _, _, .nil, _ => .nil
  | _, _, _, .cons h t n, m => .cons (ow_frame f l h fun b mb => m b (List.mem_append_left _ mb)) (owAll_frame f l t fun b mb => m b (List.mem_append_right _ mb)) n
theorem ow_same (s : Same H H') {v : V} {d : PyData} {T : List Addr} (h : Ow K H v d T) : Ow K H' v d T := ow_frame (S := []) (But.of s _) (fun b m => by cases m) h fun b _ z => by cases z
theorem owAll_same (s : Same H H') {v : List V} {d : List PyData} {T : List Addr} (h : OwAll K H v d T) : OwAll K H' v d T := owAll_frame (S := []) (But.of s _) (fun b m => by cases m) h fun b _ z => by cases z
theorem ow_dp {v : V} {d : PyData} {S : List Addr} (h : Ow K H v d S) : Dp K H v d :=
  Ow.rec (motive_1 := fun v d _ _ => Dp K H v d) (motive_2 := fun vs ds _ _ => DpAll K H vs ds) .non (fun b => .bl b) (fun i => .int i) (fun x => .str x) (fun h _ _ ih => .lst (SqL.of h) ih) (fun h _ ih => .tup h ih) .nil (fun _ _ _ i1 i2 => .cons i1 i2) h
theorem owAll_dp : ∀ {vs : List V} {ds : List PyData} {S : List Addr}, OwAll K H vs ds S → DpAll K H vs ds
  | _, _, _, .nil => .nil
  | _, _, _, .cons h t _ => .cons (ow_dp h) (owAll_dp t)
theorem owAll_add : ∀ {vs : List V} {ds : List PyData} {S : List Addr}, OwAll K H vs ds S → ∀ {v : V} {d : PyData} {T : List Addr}, Ow K H v d T → (∀ b ∈ S, b ∉ T) → ∃ U, OwAll K H (vs ++ [v]) (ds ++ [d]) U ∧ ∀ b, b ∈ U ↔ b ∈ S ∨ b ∈ T
  | _, _, _, .nil, v, d, T, h, _ => ⟨T ++ [], .cons h .nil (fun _ _ z => by cases z), fun b => by simp⟩
  | _, _, _, .cons (S := S1) (T := S2) h0 t n, v, d, T, h, m => by
    obtain ⟨U, hU, e⟩ := owAll_add t h fun b mb => m b (List.mem_append_right _ mb)
    refine ⟨S1 ++ U, .cons h0 hU fun b mb z => ?_, fun b => ?_⟩
    · rcases (e b).mp z with z | z
      · exact n b mb z
      · exact m b (List.mem_append_left _ mb) z
    · rw [List.mem_append, e, List.mem_append, or_assoc]
/-- a list of own things that is being made at D -/
def OwB (K : Frag) (H H' : Hp) (D : Addr) (ds : List PyData) : Prop := H D = none ∧ Same H (hide H' D) ∧ ∃ ys S, H' D = some (.lst ys) ∧ OwAll K H' ys ds S ∧ (∀ b ∈ S, H b = none) ∧ D ∉ S
theorem OwB.new {D : Addr} (n : H D = none) : OwB K H (L2.upd H D (.lst [])) D [] := ⟨n, hide_of (same_upd n) n, [], [], upd_same, .nil, (fun b m => by cases m), (fun m => by cases m)⟩
theorem OwB.base {D : Addr} {ds : List PyData} (b : OwB K H H' D ds) : Same H H' := b.2.1.trans hide_same
theorem OwB.there {D : Addr} {ds : List PyData} (b : OwB K H H' D ds) : ∃ ys, H' D = some (.lst ys) := by
  obtain ⟨n, s0, ys, S, h, r⟩ := b
  exact ⟨ys, h⟩
theorem OwB.same {D : Addr} {ds : List PyData} (b : OwB K H H' D ds) (s : Same H' H'') : OwB K H H'' D ds := by
  obtain ⟨n, s0, ys, S, h, a, nw, nd⟩ := b
  exact ⟨n, s0.trans (hide_mono s), ys, S, s _ _ h, owAll_same s a, nw, nd⟩
theorem OwB.put {H2 : Hp} {D : Addr} {ds : List PyData} (b : OwB K H H' D ds) (s : Same H' H2) : ∃ ys, H2 D = some (.lst ys) ∧ ys.length = ds.length ∧ ∀ v d T, Ow K H2 v d T → (∀ b ∈ T, H' b = none) → OwB K H (L2.upd H2 D (.lst (ys ++ [v]))) D (ds ++ [d]) := by
  have base := b.base
  obtain ⟨n, s0, ys, S, h, a, nw, nd⟩ := b
  refine ⟨ys, s _ _ h, dpLen (owAll_dp a), fun v d T hv nT => ?_⟩
  have ls := owAll_lis a
  have dj : ∀ b ∈ S, b ∉ T := fun b mb z => by
    obtain ⟨xs, e⟩ := ls b mb
    rw [nT b z] at e
    cases e
  have dT : D ∉ T := fun z => by
    have e := nT D z
    rw [h] at e
    cases e
  obtain ⟨U, hU, eU⟩ := owAll_add (owAll_same s a) hv dj
  have nU : D ∉ U := fun z => ((eU D).mp z).elim nd dT
  refine ⟨n, (s0.trans (hide_mono s)).trans hide_upd, _, U, upd_same, owAll_frame (S := [D]) But.put (fun b m => ?_) hU (fun b mb z => ?_), fun b mb => ?_, nU⟩
  · rcases List.mem_singleton.mp m with rfl
    exact ⟨_, s _ _ h⟩
  · rcases List.mem_singleton.mp z with rfl
    exact nU mb
  · rcases (eU b).mp mb with mb | mb
    · exact nw b mb
    · cases e : H b with
      | none => rfl
      | some u =>
        have z := base b u e
        rw [nT b mb] at z
        cases z
end
/-! # data by its depth -/
def Pl0 (d : PyData) : Prop := (∃ x, d = .str x) ∨ (∃ b, d = .bool b) ∨ (∃ i, d = .int i) ∨ d = .none
def Pl : Nat → PyData → Prop
  | 0, d => Pl0 d
  | n + 1, d => Pl0 d ∨ ∃ ds : List PyData, (d = .list ds ∨ d = .tuple ds) ∧ ds.length ≤ 1000 ∧ ∀ e ∈ ds, Pl n e
theorem pl_cases {n : Nat} {d : PyData} (hp : Pl n d) : Pl0 d ∨ ∃ m ds, n = m + 1 ∧ (d = .list ds ∨ d = .tuple ds) ∧ ds.length ≤ 1000 ∧ ∀ e ∈ ds, Pl m e := by
  cases n with
  | zero => exact .inl hp
  | succ m =>
    rcases hp with h | ⟨ds, h⟩
    · exact .inl h
    · exact .inr ⟨m, ds, rfl, h⟩
theorem kan {K : PySem.W.Frag} {t c : Value} {cs : List Value} {r : Bool} (h : PySem.W.kitOne K t c = some false) (hr : PySem.W.kitAny K t cs = some r) : PySem.W.kitAny K t (c :: cs) = some r := kitAny_cons h (fun _ => hr) (fun z => by cases z)
theorem kay {K : PySem.W.Frag} {t c : Value} {cs : List Value} (h : PySem.W.kitOne K t c = some true) : PySem.W.kitAny K t (c :: cs) = some true := kitAny_cons h (fun z => by cases z) (fun _ => rfl)
theorem ty_lst {K : Frag} {H : Hp} {a : Addr} {xs : List V} (h : SqL K H a xs) : TyX K H (.ref a) (.type "list") := by
  rcases h with (h | ⟨o, h⟩) | ⟨o, its, n, h, c, _⟩
  · exact .base (.lst h)
  · exact .base (.frz h)
  · exact .kList h c
theorem ty_tup {K : Frag} {H : Hp} {a : Addr} {xs : List V} (h : SqT K H a xs) : TyX K H (.ref a) (.type "tuple") := by
  rcases h with (h | ⟨o, h⟩) | ⟨o, its, n, h, c, _⟩
  · exact .base (.tup h)
  · exact .fTuple h
  · exact .kTuple h c
/-- data that is no list and no tuple, with its type -/
theorem pl0_ty {K : Frag} {H : Hp} {v : V} {d : PyData} (h : Pl0 d) (dp : Dp K H v d) : Ow K H v d [] ∧ ∃ n, TyX K H v (.type n) ∧ (n = "str" ∨ n = "bool" ∨ n = "int" ∨ n = "NoneType") := by
  rcases h with ⟨x, rfl⟩ | ⟨x, rfl⟩ | ⟨x, rfl⟩ | rfl
  · cases dp
    exact ⟨.str x, _, .base (.str x), .inl rfl⟩
  · cases dp
    exact ⟨.bl x, _, .base (.bl x), .inr (.inl rfl)⟩
  · cases dp
    exact ⟨.int x, _, .base (.int x), .inr (.inr (.inl rfl))⟩
  · cases dp
    exact ⟨.non, _, .base .non, .inr (.inr (.inr rfl))⟩
theorem flat_no {K : Frag} {n : String} (h : n = "str" ∨ n = "bool" ∨ n = "int" ∨ n = "NoneType") : kitOne K (.type n) (.type "list") = some false ∧ kitOne K (.type n) (.type "tuple") = some false ∧ kitOne K (.type n) (.type "dict") = some false := by
  rcases h with rfl | rfl | rfl | rfl
  · exact ⟨kit_ty (by decide +kernel), kit_ty (by decide +kernel), kit_ty (by decide +kernel)⟩
  · exact ⟨kit_ty (by decide +kernel), kit_ty (by decide +kernel), kit_ty (by decide +kernel)⟩
  · exact ⟨kit_ty (by decide +kernel), kit_ty (by decide +kernel), kit_ty (by decide +kernel)⟩
  · exact ⟨kit_ty (by decide +kernel), kit_ty (by decide +kernel), kit_ty (by decide +kernel)⟩
/-- an own copy is made -/
def spOw (K : Frag) : Nat → Sp
  | 0 => fun _ _ _ _ => False
  | n + 1 => fun vs H Q _ => ∃ (v : V) (d : PyData), vs = [v] ∧ Dp K H v d ∧ Pl n d ∧ ∀ (H' : Hp) (u : V) (S : List Addr), Same H H' → Ow K H' u d S → (∀ b ∈ S, H b = none) → Q u H'
/-- what was own is spoilt: nothing but its lists changes -/
def spSl (K : Frag) : Nat → Sp
  | 0 => fun _ _ _ _ => False
  | n + 1 => fun vs H Q _ => ∃ (v : V) (d : PyData) (S : List Addr), vs = [v] ∧ Ow K H v d S ∧ Pl n d ∧ ∀ (H' : Hp), But S H H' → Lis S H' → Q .non H'
end Qb
end PySem
namespace PySem
namespace Qb
open PySem.W PySem.Calls PyProof.Rows L2
/-! # |= and &=, of names and of fields -/
section
variable {X : Cx}
theorem ip_or : PIp X .BitOr (ipI fun i j => Builtin.bitOr i j) := by
  intro pins s σ H x y v u Q I r1 r2 h
  obtain ⟨i, j, e1, e2, q⟩ := h
  subst e1; subst e2
  obtain ⟨t, rfl⟩ := r1
  obtain ⟨t', rfl⟩ := r2
  exact ior_int ⟨.int _, H, I.tok _, ⟨_, rfl⟩, q⟩
theorem ip_and : PIp X .BitAnd (ipI fun i j => Builtin.bitAnd i j) := by
  intro pins s σ H x y v u Q I r1 r2 h
  obtain ⟨i, j, e1, e2, q⟩ := h
  subst e1; subst e2
  obtain ⟨t, rfl⟩ := r1
  obtain ⟨t', rfl⟩ := r2
  exact iand_int ⟨.int _, H, I.tok _, ⟨_, rfl⟩, q⟩
def rOrI : V → V → Hp → VK → Prop := fun x y H Q => ∃ i j, x = .int i ∧ y = .int j ∧ Q (.int (Builtin.bitOr i j)) H
theorem in_or : InOp X .BitOr rOrI := by
  rintro pins s σ H x y u v Q I rx ry ⟨i, j, rfl, rfl, q⟩
  obtain ⟨t, rfl⟩ := (show ∃ t, u = Value.int i t from rx)
  obtain ⟨t', rfl⟩ := (show ∃ t', v = Value.int j t' from ry)
  exact ior_int ⟨.int _, H, I.tok _, ⟨_, rfl⟩, q⟩
end
/-! # x[::-1] of a text -/
def revS (x : Str) : Str := ⟨x.cps.reverse⟩
theorem rev_slice (x : Str) (u : Tok) : Txt.sliceBy x none none (-1, u) = revS x := by
  have e : (Txt.sliceBy x none none (-1, u)).cps.toList = (revS x).cps.toList := by
    rw [step_rev_list]
    show _ = x.cps.reverse.toList
    rw [Array.toList_reverse]
    refine List.ext_getElem (by simp [Str.length]) fun i h1 h2 => ?_
    have hi : i < x.cps.size := by simpa [Str.length] using h1
    rw [List.getElem_map, List.getElem_range, List.getElem_reverse]
    have : x.length - 1 - i < x.cps.size := by show x.cps.size - 1 - i < _; omega
    simp [Array.getD, this]
    rfl
  have := Array.toList_inj.mp e
  cases h : Txt.sliceBy x none none (-1, u)
  rw [h] at this
  rw [show revS x = ⟨(revS x).cps⟩ from rfl, ← this]
def tRevS (te : TE) : TE := fun σ H Q => te σ H fun v H1 => ∃ x, v = .str x ∧ x.length ≤ sizeLine ∧ Q (.str (revS x)) H1
theorem pe_revS {X : Cx} {e : Expr} {te : TE} {k : Nat} {p1 p2 p3 pos : Pos} (he : PE X e te) : PE X (.Subscript e (.Slice none none (some (.UnaryOp .USub (.Constant (.int 1) k p1) p2)) p3) pos) (tRevS te) := by
  refine ⟨fun pins s σ H Q I h => ?_⟩
  refine Subscript_ (thn (he.run pins s σ H _ I h) fun v s1 ⟨y, H1, I1, r1, q1⟩ => ?_)
  obtain ⟨x, ex, hx, q⟩ := q1
  subst ex
  obtain ⟨t0, rfl⟩ := r1
  have hst : PO X (some (.UnaryOp .USub (.Constant (.int 1) k p1) p2)) (tPart (tUn (rU fun i => .int (-i)) (tC (.int 1)))) := po_some (pe_un un_neg pe_int)
  refine wpAny_Slice (thn (po_none.run pins s1 σ H1 (fun o H2 => o = none ∧ H2 = H1) I1 ⟨rfl, rfl⟩) fun vl s2 ⟨l, H2, I2, pl, el, e2⟩ => ?_)
  subst el e2
  refine thn (po_none.run pins s2 σ H2 (fun o H3 => o = none ∧ H3 = H2) I2 ⟨rfl, rfl⟩) fun vu s3 ⟨u, H3, I3, pu, eu, e3⟩ => ?_
  subst eu e3
  refine thn (hst.run pins s3 σ H3 (fun o H4 => o = some (-1) ∧ H4 = H3) I3 ⟨1, rfl, -1, rfl, rfl, rfl⟩) fun vs s4 ⟨o, H4, I4, ps, eo, e4⟩ => ?_
  subst eo e4
  have I5 : Inv X pins σ H4 { s4 with heap := s4.heap.push { cls := .type "slice", data := .fields #[vl, vu, vs] } } := I4.kept (t' := s4.toks) fun b ob q => Heap.get?_push_of_some _ q
  obtain ⟨l, e1, e2⟩ := IsPart.raw pl
  obtain ⟨u, e3, e4⟩ := IsPart.raw pu
  obtain ⟨st, e5, e6⟩ := IsPart.raw ps
  subst e1 e3 e5
  cases l with
  | some l => cases e2
  | none =>
  cases u with
  | some u => cases e4
  | none =>
  cases st with
  | none => cases e6
  | some st =>
  obtain ⟨i, ti⟩ := st
  obtain rfl : i = -1 := Option.some.inj e6
  show wpAny (model X.prog X.w) X.A (subscriptTail e (.Slice none none (some (.UnaryOp .USub (.Constant (.int 1) k p1) p2)) p3) (.str x t0) (.ref s4.heap.objs.size)) (EP X pins σ Q) X.xe { s4 with heap := s4.heap.push { cls := .type "slice", data := .fields #[_, _, _] } }
  refine tail_any (ops := [.str x t0, .ref s4.heap.objs.size]) (typeIs_str _ _ _) (F.slot_str_getitem.lookup) ?_ (by with_unfolding_all rfl)
  refine wpAny_getItem_str_slice (l := none) (u := none) (st := some (-1, ti)) (Heap.IsSliceOf.new _ _ _ _) rfl ?_
  have hl : (Txt.sliceBy x none none (-1, ti)).length ≤ sizeLine := by
    rw [rev_slice]
    show x.cps.reverse.size ≤ _
    rw [Array.size_reverse]
    exact hx
  rw [← rev_slice x ti] at q
  unfold Txt.sliceBy at q hl
  show Made.post (if (((-1 : Int) == 1) && (slicePicked x none none (some (-1, ti))).length == x.length) = true then Made.val (.str x t0) else Made.str ⟨((slicePicked x none none (some (-1, ti))).filterMap (x.cps[·]?)).toArray⟩) (EP X pins σ Q) _
  rw [if_neg (by simp)]
  rw [if_neg (by simp)] at q hl
  exact ⟨hl, .str _, H4, I5.tok _, ⟨_, rfl⟩, q⟩
/-! # enumerate of a text -/
def Ites (x : Str) : It :=
  ⟨fun i _ => i < x.cps.size, fun i H v H' => ∃ T c, v = .ref T ∧ H T = none ∧ x.cps[i]? = some c ∧ H' = L2.upd H T (.tup [.int (i : Nat), .str ⟨#[c]⟩]), fun i _ => i = x.cps.size⟩
theorem turn_enumS {P : Program} {w : World} {K : PySem.W.Frag} {elts : List Expr} {kk : Nat} {tpos : Pos} (x : Str) (t : Tok) (ty : String) (hty : ty = "str_ascii_iterator" ∨ ty = "str_iterator") (e it : Addr) :
    Turn P w K (.Tuple elts kk tpos) (Ites x) [e, it] e (fun i h => (∃ old, IsEnum h e it ((i : Nat) : Int) old) ∧ h.IsStrIter it ty x t i ∧ e ≠ it) where
  mem := by simp
  obj := fun i h st b hb => by
    obtain ⟨⟨old, he⟩, ⟨o, ho, hc, hd⟩, _⟩ := st
    have e' : b = e ∨ b = it := by simpa using hb
    rcases e' with z | z
    · rw [z]; exact ⟨_, he, fun v q => nomatch q⟩
    · rw [z]; exact ⟨o, ho, fun v q => by rw [hd] at q; cases q⟩
  keep := fun i h h' st k => let ⟨⟨old, he⟩, ⟨o, ho, r⟩, hne⟩ := st; ⟨⟨old, k e (by simp) _ he⟩, ⟨o, k it (by simp) o ho, r⟩, hne⟩
  item := by
    intro X hP hw hK hc i pins s σ H E I hf st hg
    subst hP hw hK
    obtain ⟨⟨old, he⟩, hit, hne⟩ := st
    have D : Draws X.prog X.w X.A.in1 it [it] x.cps.size (fun i v => ∃ c u, x.cps[i]? = some c ∧ v = .str ⟨#[c]⟩ u) (fun i h => h.IsStrIter it ty x t i) := by
      rcases hty with e | e
      · rw [e]; exact Draws.strAscii (A := X.A.in1) (show X.A.in1.handled = none from I.ok.hd hc) it x t
      · rw [e]; exact Draws.strWide (A := X.A.in1) (show X.A.in1.handled = none from I.ok.hd hc) it x t
    have hel : e < s.heap.objs.size := Heap.lt_size he
    have hil : it < s.heap.objs.size := by obtain ⟨_, q, _⟩ := hit; exact Heap.lt_size q
    refine wpAny_pyNext_enum_itemD D he hit hg hne (by simpa using hne) fun u h' tk hP ho hit' hT hsz hk => ?_
    obtain ⟨c, tu, hcx, rfl⟩ := hP
    refine ⟨_, rfl, wpAny_letOwnedTupleGo_enum (s := { s with heap := h', toks := tk + 1 }) ho fun h'' he' sb => ?_⟩
    have hT2 : h''.get? s.heap.objs.size = some { cls := .type "tuple", data := .seq #[.int i tk, .str ⟨#[c]⟩ tu] } := (sb.2 _ (Nat.ne_of_gt hel)).trans hT
    have new : ObjOk X.prog X.w (L2.upd H s.heap.objs.size (.tup [.int (i : Nat), .str ⟨#[c]⟩])) h'' s.heap.objs.size (.tup [.int (i : Nat), .str ⟨#[c]⟩]) :=
      ⟨by show 2 ≤ sizeLine; decide, [.int i tk, .str ⟨#[c]⟩ tu], .cons ⟨_, rfl⟩ (.cons ⟨_, rfl⟩ .nil), ⟨_, hT2, rfl, _, rfl⟩⟩
    have I1 : Inv X pins σ (L2.upd H s.heap.objs.size (.tup [.int (i : Nat), .str ⟨#[c]⟩])) { s with heap := h'', toks := tk + 1 } :=
      I.turnedNew (ch := [e, it]) (fun b ob hb q => (sb.2 b (fun z => hb (by simp [z]))).trans (hk b ob (fun z => hb (by simp [z])) (fun z => hb (by simp [z])) q)) hf (Nat.le_refl _) new
    refine ⟨.ref s.heap.objs.size, _, I1, rfl, ⟨_, c, rfl, I.hok.fresh (Nat.le_refl _), hcx, rfl⟩, ⟨⟨.str ⟨#[c]⟩ tu, ?_⟩, ?_, hne⟩, fun b hb => ?_⟩
    · have e1 : ((i + 1 : Nat) : Int) = (i : Int) + 1 := by omega
      rw [e1]; exact he'
    · obtain ⟨o, q, r⟩ := hit'
      exact ⟨o, (sb.2 it (Ne.symm hne)).trans q, r⟩
    · have hb' : b < s.heap.objs.size := by
        have e' : b = e ∨ b = it := by simpa using hb
        rcases e' with z | z
        · rw [z]; exact hel
        · rw [z]; exact hil
      rw [upd_ne (Nat.ne_of_lt hb')]
      exact (hf b hb).1
  done := by
    intro X hP hw hK hc i pins s σ H E I hf st hg
    subst hP hw hK
    obtain ⟨⟨old, he⟩, hit, hne⟩ := st
    have D : Draws X.prog X.w X.A.in1 it [it] x.cps.size (fun i v => ∃ c u, x.cps[i]? = some c ∧ v = .str ⟨#[c]⟩ u) (fun i h => h.IsStrIter it ty x t i) := by
      rcases hty with e | e
      · rw [e]; exact Draws.strAscii (A := X.A.in1) (show X.A.in1.handled = none from I.ok.hd hc) it x t
      · rw [e]; exact Draws.strWide (A := X.A.in1) (show X.A.in1.handled = none from I.ok.hd hc) it x t
    obtain rfl : i = x.cps.size := hg
    obtain ⟨f0, f1, f2, f3, f4, f5⟩ := hf it (by simp)
    exact wpAny_pyNext_enum_endD D he hit fun h' eb => ⟨rfl, I.turned (t' := s.toks) (fun b o hb q => eb b o hb q) f0 f1 f3 f4 f5⟩
  self := fun A i s Q E st h => let ⟨⟨_, he⟩, _⟩ := st; wpAny_pyIter_enum he h
def iEnumS (ta : TA) : TI := fun σ H R => ta σ H fun vs H1 => ∃ x, vs = [.str x] ∧ R (Ites x) H1
theorem pi_enumS {X : Cx} {e : Expr} {ta : TA} {p pos tpos : Pos} {elts : List Expr} {kk : Nat} (hg : Gl X "enumerate") (hm : X.mg "enumerate" = none) (ha : PA X [e] ta) (hs : starEach [e] X.env = [(false, eval e X.env)] := by rfl) :
    PI X (.Tuple elts kk tpos) (.Call (.Name "enumerate" p) [e] [] pos) (iEnumS ta) := by
  refine ⟨fun pins s σ H R I h => ?_⟩
  refine Call_ (ld_blt I hg hm boot_enumerate (PyProof.Rows.callWith_type1 (thn (ha.run pos pins s σ H _ I h) fun us s1 ⟨vs, H1, I1, r1, q1⟩ => ?_) hs rfl))
  obtain ⟨x, ex, q⟩ := q1
  subst ex
  cases r1 with
  | cons r rr =>
    cases rr
    obtain ⟨t, rfl⟩ := r
    refine call_enumerate_str fun h' he hit hsz hk => wpAny_pyIter_enum he ?_
    have I2 : Inv X pins σ H1 { s1 with heap := h' } := I1.kept (t' := s1.toks) hk
    have hty : strIterType x = "str_ascii_iterator" ∨ strIterType x = "str_iterator" := by
      unfold strIterType
      split
      · first | exact .inl rfl | exact .inr rfl
      · first | exact .inr rfl | exact .inl rfl
    refine ⟨s1.heap.objs.size + 1, [s1.heap.objs.size + 1, s1.heap.objs.size], _, _, H1, rfl, I2, turn_enumS x t (strIterType x) hty (s1.heap.objs.size + 1) s1.heap.objs.size, ⟨⟨.none, he⟩, hit, Nat.succ_ne_self _⟩, fun b hb => ?_, q⟩
    have e' : b = s1.heap.objs.size + 1 ∨ b = s1.heap.objs.size := by simpa using hb
    have hle : s1.heap.objs.size ≤ b := by
      rcases e' with z | z
      · rw [z]; exact Nat.le_add_right _ _
      · rw [z]; exact Nat.le_refl _
    exact I1.fpOk hle (I1.hok.fresh hle)
theorem walk_enumS {z : Str} : L2.Walk (Ites z) z.cps.size (fun _ => True) (fun i H v H' => ∃ T c, v = .ref T ∧ H T = none ∧ z.cps[i]? = some c ∧ H' = L2.upd H T (.tup [.int (i : Nat), .str ⟨#[c]⟩])) :=
  ⟨fun _ _ hi _ => hi, fun _ _ => rfl, fun _ _ _ _ _ _ y => y⟩
end Qb
end PySem
namespace PySem
namespace Qb
open PySem.W PySem.Calls PyProof.Rows L2
def signsS : Str := "\n !\"#$&'()*+,-./0123456789:;<=>?@ABCDEFGHIJKLMNOPQRSTUVWXYZ[\\]^_`abcdefghijklmnopqrstuvwxyz{|}~"
abbrev sg (c : Nat) : Str := ⟨#[c]⟩
def rgD (r : Nat × Nat) : PyData := .tuple [.str (sg r.1), .str (sg r.2)]
inductive Pt where
  | one (c : Nat)
  | any
  | lot
  | of (no : Bool) (rs : List (Nat × Nat))
def Pt.d : Pt → PyData
  | .one c => .tuple [.str "one", .str (sg c)]
  | .any => .tuple [.str "any"]
  | .lot => .tuple [.str "lot"]
  | .of no rs => .tuple [.str "of", .bool no, .list (rs.map rgD)]
def Pt.good : Pt → Prop
  | .one c => c ∈ cs signsS
  | .of _ rs => rs ≠ [] ∧ ∀ r ∈ rs, r.1 ∈ cs signsS ∧ r.2 ∈ cs signsS ∧ r.1 ≤ r.2
  | _ => True
def Pt.few : Pt → Prop
  | .of _ rs => rs.length ≤ 300
  | _ => True
def Pt.takes : Pt → Nat → Bool
  | .one c, x => c == x
  | .of no rs, x => (rs.any fun r => decide (r.1 ≤ x) && decide (x ≤ r.2)) != no
  | _, _ => true
def Pt.isLot : Pt → Bool
  | .lot => true
  | _ => false
/-- a row of pieces lets a row of signs by -/
def M : List Pt → List Nat → Prop
  | [], w => w = []
  | p :: ps, w => if p.isLot = true then ∃ k, k ≤ w.length ∧ M ps (w.drop k) else ∃ c v, w = c :: v ∧ p.takes c = true ∧ M ps v
theorem M_nil {w : List Nat} : M [] w ↔ w = [] := Iff.rfl
theorem M_lot {ps : List Pt} {w : List Nat} : M (.lot :: ps) w ↔ ∃ k, k ≤ w.length ∧ M ps (w.drop k) := by
  show (if _ then _ else _) ↔ _
  rw [if_pos (show Pt.lot.isLot = true from rfl)]
theorem M_one {p : Pt} {ps : List Pt} {w : List Nat} (h : p.isLot = false) : M (p :: ps) w ↔ ∃ c v, w = c :: v ∧ p.takes c = true ∧ M ps v := by
  show (if _ then _ else _) ↔ _
  rw [h, if_neg (by decide)]
theorem isLot_eq {p : Pt} (h : p.isLot = true) : p = .lot := by
  cases p <;> first | rfl | cases h
theorem M_append : ∀ {ps qs : List Pt} {w : List Nat}, M (ps ++ qs) w ↔ ∃ k, k ≤ w.length ∧ M ps (w.take k) ∧ M qs (w.drop k)
  | [], qs, w => by
    constructor
    · intro h
      exact ⟨0, Nat.zero_le _, rfl, h⟩
    · rintro ⟨k, hk, h1, h2⟩
      have h1 : w.take k = [] := h1
      have : k = 0 ∨ w = [] := by
        cases k with
        | zero => exact .inl rfl
        | succ k => cases w with
          | nil => exact .inr rfl
          | cons _ _ => cases h1
      rcases this with rfl | rfl
      · exact h2
      · simpa using h2
  | p :: ps, qs, w => by
    cases hp : p.isLot with
    | true =>
      obtain rfl := isLot_eq hp
      rw [List.cons_append, M_lot]
      constructor
      · rintro ⟨j, hj, h⟩
        obtain ⟨k, hk, h1, h2⟩ := M_append.mp h
        rw [List.length_drop] at hk
        refine ⟨j + k, by omega, M_lot.mpr ⟨j, by rw [List.length_take]; omega, ?_⟩, by rw [List.drop_drop] at h2; exact h2⟩
        rw [List.drop_take, show j + k - j = k by omega]
        exact h1
      · rintro ⟨k, hk, h1, h2⟩
        obtain ⟨j, hj, h1⟩ := M_lot.mp h1
        rw [List.length_take] at hj
        refine ⟨j, by omega, M_append.mpr ⟨k - j, by rw [List.length_drop]; omega, by rw [List.drop_take] at h1; exact h1, ?_⟩⟩
        rw [List.drop_drop, show j + (k - j) = k by omega]
        exact h2
    | false =>
      rw [List.cons_append, M_one hp]
      constructor
      · rintro ⟨c, v, rfl, ht, h⟩
        obtain ⟨k, hk, h1, h2⟩ := M_append.mp h
        exact ⟨k + 1, Nat.succ_le_succ hk, (M_one hp).mpr ⟨c, v.take k, rfl, ht, h1⟩, h2⟩
      · rintro ⟨k, hk, h1, h2⟩
        obtain ⟨c, v, e, ht, h⟩ := (M_one hp).mp h1
        cases w with
        | nil => simp at e
        | cons d u =>
          cases k with
          | zero => cases e
          | succ k =>
            obtain ⟨rfl, rfl⟩ := List.cons.inj e
            exact ⟨d, u, rfl, ht, M_append.mpr ⟨k, Nat.le_of_succ_le_succ hk, h, h2⟩⟩
theorem M_congr {a b b' : List Pt} (h : ∀ w, M b w ↔ M b' w) (w : List Nat) : M (a ++ b) w ↔ M (a ++ b') w := by
  rw [M_append, M_append]
  constructor
  · rintro ⟨k, hk, h1, h2⟩; exact ⟨k, hk, h1, (h _).mp h2⟩
  · rintro ⟨k, hk, h1, h2⟩; exact ⟨k, hk, h1, (h _).mpr h2⟩
theorem M_lot_lot {ps : List Pt} (w : List Nat) : M (.lot :: .lot :: ps) w ↔ M (.lot :: ps) w := by
  rw [M_lot, M_lot]
  constructor
  · rintro ⟨k, hk, h⟩
    obtain ⟨j, hj, h⟩ := M_lot.mp h
    rw [List.length_drop] at hj
    rw [List.drop_drop] at h
    exact ⟨k + j, by omega, h⟩
  · rintro ⟨k, hk, h⟩
    exact ⟨0, Nat.zero_le _, M_lot.mpr ⟨k, hk, h⟩⟩
theorem drop_cons {w : List Nat} {k : Nat} (h : k < w.length) : w.drop k = w[k] :: w.drop (k + 1) := List.drop_eq_getElem_cons h
theorem M_lot_any {ps : List Pt} (w : List Nat) : M (.lot :: .any :: ps) w ↔ M (.any :: .lot :: ps) w := by
  rw [M_lot, M_one (p := .any) rfl]
  constructor
  · rintro ⟨k, hk, h⟩
    obtain ⟨c, v, e, _, hv⟩ := (M_one (p := .any) rfl).mp h
    cases w with
    | nil => simp at e
    | cons d u =>
      refine ⟨d, u, rfl, rfl, M_lot.mpr ⟨k, ?_, ?_⟩⟩
      · have : k < (d :: u).length := by
          rcases Nat.lt_or_ge k (d :: u).length with z | z
          · exact z
          · rw [List.drop_eq_nil_of_le z] at e; cases e
        simpa [Nat.lt_succ_iff] using this
      · have : u.drop k = v := by
          have e2 := congrArg List.tail e
          rw [List.tail_drop] at e2
          exact e2
        rw [this]
        exact hv
  · rintro ⟨c, v, rfl, _, h⟩
    obtain ⟨k, hk, h⟩ := M_lot.mp h
    have e : (c :: v).drop k = (c :: v)[k]'(by simp; omega) :: v.drop k := drop_cons (w := c :: v) (by simp; omega)
    exact ⟨k, by simp; omega, (M_one (p := .any) rfl).mpr ⟨_, _, e, rfl, h⟩⟩
/-! ## the rows that a machine reads -/
def lotAt (R : List Pt) (q : Nat) : Bool := match R[q]? with
  | some p => p.isLot
  | none => false
theorem lotAt_lt {R : List Pt} {q : Nat} (h : lotAt R q = true) : q < R.length := by
  unfold lotAt at h
  rcases Nat.lt_or_ge q R.length with z | z
  · exact z
  · rw [List.getElem?_eq_none z] at h; cases h
theorem drop_lot {R : List Pt} {q : Nat} (h : lotAt R q = true) : R.drop q = .lot :: R.drop (q + 1) := by
  have l := lotAt_lt h
  unfold lotAt at h
  rw [List.getElem?_eq_getElem l] at h
  rw [List.drop_eq_getElem_cons l, isLot_eq h]
theorem drop_non {R : List Pt} {q : Nat} (l : q < R.length) (h : lotAt R q = false) : R.drop q = R[q] :: R.drop (q + 1) ∧ R[q].isLot = false := by
  unfold lotAt at h
  rw [List.getElem?_eq_getElem l] at h
  exact ⟨List.drop_eq_getElem_cons l, h⟩
/-- no two lots side by side -/
def Sep (R : List Pt) : Prop := ∀ q, lotAt R q = true → lotAt R (q + 1) = false
def Acc (R : List Pt) (s : Nat) (w : List Nat) : Prop := ∃ q, s.testBit q = true ∧ M (R.drop q) w
def In (R : List Pt) (s : Nat) : Prop := ∀ q, s.testBit q = true → q ≤ R.length
def Cl (R : List Pt) (s : Nat) : Prop := ∀ q, s.testBit q = true → lotAt R q = true → s.testBit (q + 1) = true
/-- what is behind a lot is behind it from any place ahead -/
theorem M_drop_lot {R : List Pt} {w : List Nat} {k : Nat} (hk : lotAt R k = true) : ∀ {n q : Nat}, q + n = k → M (R.drop q) w → M (R.drop k) w
  | 0, q, e, h => by
    obtain rfl : q = k := by omega
    exact h
  | n + 1, q, e, h => by
    have l := lotAt_lt hk
    have lk := drop_lot hk
    have ex : ∃ v j, j ≤ w.length ∧ v = w.drop j ∧ M (R.drop (q + 1)) v := by
      cases hq : lotAt R q with
      | true =>
        rw [drop_lot hq, M_lot] at h
        obtain ⟨j, hj, h⟩ := h
        exact ⟨_, j, hj, rfl, h⟩
      | false =>
        obtain ⟨e1, e2⟩ := drop_non (by omega) hq
        rw [e1, M_one e2] at h
        obtain ⟨c, v, rfl, _, h⟩ := h
        exact ⟨v, 1, by simp, rfl, h⟩
    obtain ⟨v, j, hj, rfl, hv⟩ := ex
    have z := M_drop_lot hk (n := n) (q := q + 1) (by omega) hv
    rw [lk, M_lot] at z ⊢
    obtain ⟨i, hi, z⟩ := z
    rw [List.length_drop] at hi
    rw [List.drop_drop] at z
    exact ⟨j + i, by omega, z⟩
/-- bits below k taken away -/
def clr (s k : Nat) : Nat := s / 2 ^ k * 2 ^ k
theorem clr_bit (s k q : Nat) : (clr s k).testBit q = (decide (k ≤ q) && s.testBit q) := by
  unfold clr
  rw [Nat.testBit_mul_two_pow]
  by_cases h : k ≤ q
  · rw [decide_eq_true h, Nat.testBit_div_two_pow, Nat.sub_add_cancel h]
  · rw [decide_eq_false h]
    rfl
theorem clr_int (s k : Nat) : Builtin.bitAnd (s : Int) (Builtin.bitNot ((2 : Int) ^ k - 1)) = ((clr s k : Nat) : Int) := by
  rw [bitAnd_not, Bits.bitAnd_mask k (Int.natCast_nonneg _)]
  have e : ((s : Int) % 2 ^ k) = ((s % 2 ^ k : Nat) : Int) := by
    rw [Int.natCast_emod, PySem.W.kbt_cast]
  rw [e]
  have := Nat.div_add_mod s (2 ^ k)
  unfold clr
  have h2 : s / 2 ^ k * 2 ^ k = 2 ^ k * (s / 2 ^ k) := Nat.mul_comm _ _
  omega
theorem and_int (a b : Nat) : Builtin.bitAnd (a : Int) (b : Int) = ((a &&& b : Nat) : Int) := by
  rw [bitAnd_pp (Int.natCast_nonneg _) (Int.natCast_nonneg _)]
  rfl
theorem or_int' (a b : Nat) : Builtin.bitOr (a : Int) (b : Int) = ((a ||| b : Nat) : Int) := by
  rw [bitOr_nn (Int.natCast_nonneg _) (Int.natCast_nonneg _)]
  rfl
theorem clr_ok {R : List Pt} {s k : Nat} (hs : Sep R) (hi : In R s) (hc : Cl R s) (hk : lotAt R k = true) (hb : s.testBit k = true) : In R (clr s k) ∧ Cl R (clr s k) ∧ ∀ w, Acc R (clr s k) w ↔ Acc R s w := by
  refine ⟨fun q h => ?_, fun q h hl => ?_, fun w => ⟨?_, ?_⟩⟩
  · rw [clr_bit, Bool.and_eq_true] at h
    exact hi q h.2
  · rw [clr_bit, Bool.and_eq_true] at h ⊢
    exact ⟨decide_eq_true (by have := of_decide_eq_true h.1; omega), hc q h.2 hl⟩
  · rintro ⟨q, h, m⟩
    rw [clr_bit, Bool.and_eq_true] at h
    exact ⟨q, h.2, m⟩
  · rintro ⟨q, h, m⟩
    by_cases e : k ≤ q
    · exact ⟨q, by rw [clr_bit, decide_eq_true e, h]; rfl, m⟩
    · exact ⟨k, by rw [clr_bit, decide_eq_true (Nat.le_refl _), hb]; rfl, M_drop_lot hk (n := k - q) (by omega) m⟩
/-- the bits of a row's lots -/
def Lots (R : List Pt) (l : Nat) : Prop := ∀ q, l.testBit q = lotAt R q
def cl1 (s l : Nat) : Nat := s ||| ((s &&& l) * 2)
theorem dbl_bit (s q : Nat) : (s * 2).testBit q = (decide (1 ≤ q) && s.testBit (q - 1)) := by
  have := Nat.testBit_mul_two_pow s q 1
  rw [Nat.pow_one] at this
  exact this
theorem cl1_ok {R : List Pt} {s l : Nat} (hs : Sep R) (hL : Lots R l) (hi : In R s) : In R (cl1 s l) ∧ Cl R (cl1 s l) ∧ ∀ w, Acc R (cl1 s l) w ↔ Acc R s w := by
  have bit : ∀ q, (cl1 s l).testBit q = true ↔ s.testBit q = true ∨ ∃ p, q = p + 1 ∧ s.testBit p = true ∧ lotAt R p = true := by
    intro q
    unfold cl1
    rw [Nat.testBit_or, dbl_bit, Nat.testBit_and, Bool.or_eq_true, Bool.and_eq_true, Bool.and_eq_true, hL]
    constructor
    · rintro (h | ⟨h1, h2, h3⟩)
      · exact .inl h
      · have := of_decide_eq_true h1
        exact .inr ⟨q - 1, by omega, h2, h3⟩
    · rintro (h | ⟨p, rfl, h2, h3⟩)
      · exact .inl h
      · exact .inr ⟨decide_eq_true (by omega), by rw [Nat.add_sub_cancel]; exact h2, by rw [Nat.add_sub_cancel]; exact h3⟩
  refine ⟨fun q h => ?_, fun q h hl => ?_, fun w => ⟨?_, ?_⟩⟩
  · rcases (bit q).mp h with h | ⟨p, rfl, h1, h2⟩
    · exact hi q h
    · exact lotAt_lt h2
  · rcases (bit q).mp h with h | ⟨p, rfl, h1, h2⟩
    · exact (bit _).mpr (.inr ⟨q, rfl, h, hl⟩)
    · rw [hs p h2] at hl
      cases hl
  · rintro ⟨q, h, m⟩
    rcases (bit q).mp h with h | ⟨p, rfl, h1, h2⟩
    · exact ⟨q, h, m⟩
    · exact ⟨p, h1, by rw [drop_lot h2, M_lot]; exact ⟨0, Nat.zero_le _, m⟩⟩
  · rintro ⟨q, h, m⟩
    exact ⟨q, (bit q).mpr (.inl h), m⟩
/-- the bits of the pieces that take a sign -/
def Mask (R : List Pt) (c k : Nat) : Prop := ∀ q, k.testBit q = true ↔ ∃ p, R[q]? = some p ∧ p.isLot = false ∧ p.takes c = true
def stp (s k l : Nat) : Nat := ((s &&& k) * 2) ||| (s &&& l)
theorem stp_ok {R : List Pt} {s l k c : Nat} (hs : Sep R) (hL : Lots R l) (hM : Mask R c k) (hi : In R s) (hc : Cl R s) : In R (stp s k l) ∧ ∀ w, Acc R (stp s k l) w ↔ Acc R s (c :: w) := by
  have bit : ∀ q, (stp s k l).testBit q = true ↔ (∃ p x, q = p + 1 ∧ s.testBit p = true ∧ R[p]? = some x ∧ x.isLot = false ∧ x.takes c = true) ∨ (s.testBit q = true ∧ lotAt R q = true) := by
    intro q
    unfold stp
    rw [Nat.testBit_or, dbl_bit, Nat.testBit_and, Nat.testBit_and, Bool.or_eq_true, Bool.and_eq_true, Bool.and_eq_true, Bool.and_eq_true, hL]
    constructor
    · rintro (⟨h1, h2, h3⟩ | h)
      · have := of_decide_eq_true h1
        obtain ⟨x, e⟩ := (hM _).mp h3
        exact .inl ⟨q - 1, x, by omega, h2, e⟩
      · exact .inr h
    · rintro (⟨p, x, rfl, h2, h3⟩ | h)
      · exact .inl ⟨decide_eq_true (by omega), by rw [Nat.add_sub_cancel]; exact h2, by rw [Nat.add_sub_cancel]; exact (hM _).mpr ⟨x, h3⟩⟩
      · exact .inr h
  have lt : ∀ {p : Nat} {x : Pt}, R[p]? = some x → ∃ h : p < R.length, R[p] = x := fun e => List.getElem?_eq_some_iff.mp e
  refine ⟨fun q h => ?_, fun w => ⟨?_, ?_⟩⟩
  · rcases (bit q).mp h with ⟨p, x, rfl, h1, h2, _⟩ | ⟨h, _⟩
    · exact (lt h2).1
    · exact hi q h
  · rintro ⟨q, h, m⟩
    rcases (bit q).mp h with ⟨p, x, rfl, h1, h2, h3, h4⟩ | ⟨h, hl⟩
    · obtain ⟨l', rfl⟩ := lt h2
      exact ⟨p, h1, by rw [List.drop_eq_getElem_cons l']; exact (M_one h3).mpr ⟨c, w, rfl, h4, m⟩⟩
    · rw [drop_lot hl, M_lot] at m
      obtain ⟨j, hj, m⟩ := m
      exact ⟨q, h, by rw [drop_lot hl, M_lot]; exact ⟨j + 1, Nat.succ_le_succ hj, m⟩⟩
  · rintro ⟨q, h, m⟩
    have one : ∀ p, s.testBit p = true → lotAt R p = false → M (R.drop p) (c :: w) → Acc R (stp s k l) w := by
      intro p hp hl m
      have lp : p < R.length := by
        rcases Nat.lt_or_ge p R.length with z | z
        · exact z
        · rw [List.drop_eq_nil_of_le z] at m; cases m
      obtain ⟨e1, e2⟩ := drop_non lp hl
      rw [e1, M_one e2] at m
      obtain ⟨c', v, e, ht, m⟩ := m
      obtain ⟨rfl, rfl⟩ := List.cons.inj e
      exact ⟨p + 1, (bit _).mpr (.inl ⟨p, R[p], rfl, hp, List.getElem?_eq_getElem lp, e2, ht⟩), m⟩
    cases hl : lotAt R q with
    | false => exact one q h hl m
    | true =>
      rw [drop_lot hl, M_lot] at m
      obtain ⟨j, hj, m⟩ := m
      cases j with
      | zero => exact one (q + 1) (hc q h hl) (hs q hl) m
      | succ j => exact ⟨q, (bit q).mpr (.inr ⟨h, hl⟩), by rw [drop_lot hl, M_lot]; exact ⟨j, Nat.le_of_succ_le_succ hj, m⟩⟩
theorem acc_end {R : List Pt} {s : Nat} (hs : Sep R) (hi : In R s) (hc : Cl R s) : s.testBit R.length = true ↔ Acc R s [] := by
  constructor
  · intro h
    exact ⟨_, h, by rw [List.drop_length]; rfl⟩
  · rintro ⟨q, h, m⟩
    have one : ∀ p, s.testBit p = true → lotAt R p = false → M (R.drop p) [] → s.testBit R.length = true := by
      intro p hp hl m
      rcases Nat.lt_or_ge p R.length with z | z
      · obtain ⟨e1, e2⟩ := drop_non z hl
        rw [e1, M_one e2] at m
        obtain ⟨c, v, e, _⟩ := m
        cases e
      · have := hi p hp
        rw [show R.length = p by omega]
        exact hp
    cases hl : lotAt R q with
    | false => exact one q h hl m
    | true =>
      rw [drop_lot hl, M_lot] at m
      obtain ⟨j, hj, m⟩ := m
      obtain rfl : j = 0 := by simpa using hj
      exact one (q + 1) (hc q h hl) (hs q hl) m
/-- a standing that is closed, and what it lets by -/
structure Std (R : List Pt) (s : Nat) (f : List Nat → Prop) : Prop where
  ins : In R s
  cl : Cl R s
  acc : ∀ w, Acc R s w ↔ f w
theorem in_lt {R : List Pt} {s : Nat} (h : In R s) : s < 2 ^ (R.length + 1) := by
  rcases Nat.lt_or_ge s (2 ^ (R.length + 1)) with z | z
  · exact z
  · obtain ⟨i, hi, hb⟩ := Nat.exists_ge_and_testBit_of_ge_two_pow z
    have := h i hb
    omega
end Qb
end PySem
namespace PySem
namespace Qb
open PySem.W PySem.Calls PyProof.Rows L2
theorem lotAt_snoc (T : List Pt) (x : Pt) (q : Nat) : lotAt (T ++ [x]) q = if q < T.length then lotAt T q else if q = T.length then x.isLot else false := by
  unfold lotAt
  by_cases h : q < T.length
  · rw [if_pos h, List.getElem?_append_left h]
  · rw [if_neg h, List.getElem?_append_right (by omega)]
    by_cases e : q = T.length
    · subst e
      rw [if_pos rfl, Nat.sub_self]
      rfl
    · rw [if_neg e, List.getElem?_eq_none (by simp; omega)]
theorem lotAt_big {T : List Pt} {q : Nat} (h : T.length ≤ q) : lotAt T q = false := by
  unfold lotAt
  rw [List.getElem?_eq_none h]
theorem Lots.nil : Lots [] 0 := fun q => by rw [Nat.zero_testBit]; rfl
theorem Lots.snoc {T : List Pt} {l : Nat} (h : Lots T l) (x : Pt) : Lots (T ++ [x]) (if x.isLot = true then l ||| 2 ^ T.length else l) := fun q => by
  rw [lotAt_snoc]
  by_cases hx : x.isLot = true
  · rw [if_pos hx, Nat.testBit_or, Nat.testBit_two_pow, h q]
    by_cases h1 : q < T.length
    · rw [if_pos h1, decide_eq_false (by omega), Bool.or_false]
    · rw [if_neg h1, lotAt_big (by omega), Bool.false_or]
      by_cases h2 : q = T.length
      · rw [if_pos h2, hx, decide_eq_true h2.symm]
      · rw [if_neg h2, decide_eq_false (Ne.symm h2)]
  · rw [if_neg hx, h q]
    by_cases h1 : q < T.length
    · rw [if_pos h1]
    · rw [if_neg h1, lotAt_big (by omega)]
      split
      · simpa using hx
      · rfl
structure RT (ps : List Pt) (i : Nat) (T : List Pt) (b : Bool) : Prop where
  sep : Sep T
  last : ∀ q, lotAt T q = true → q + 1 < T.length
  len : T.length + b.toNat ≤ i
  mem : ∀ p ∈ T, p ∈ ps ∨ p = .lot
  eq : ∀ rest w, M (ps.take i ++ rest) w ↔ M (T ++ ((if b = true then [Pt.lot] else []) ++ rest)) w
theorem RT.zero (ps : List Pt) : RT ps 0 [] false := ⟨fun q h => (by simp [lotAt] at h), fun q h => (by simp [lotAt] at h), Nat.le_refl _, (by simp), fun _ _ => Iff.rfl⟩
theorem take_mid {ps : List Pt} {i : Nat} {p : Pt} (h : ps[i]? = some p) (rest : List Pt) : ps.take (i + 1) ++ rest = ps.take i ++ (p :: rest) := by
  rw [List.take_succ, h]
  simp
theorem RT.lot {ps T : List Pt} {i : Nat} {b : Bool} (h : RT ps i T b) (e : ps[i]? = some .lot) : RT ps (i + 1) T true := by
  refine ⟨h.sep, h.last, ?_, h.mem, fun rest w => ?_⟩
  · have := h.len
    cases b <;> simp at this ⊢ <;> omega
  · rw [take_mid e, h.eq]
    refine M_congr (fun u => ?_) w
    cases b with
    | false => exact Iff.rfl
    | true => exact M_lot_lot u
theorem sep_snoc {T : List Pt} {x : Pt} (hs : Sep T) (hl : ∀ q, lotAt T q = true → q + 1 < T.length) (hx : x.isLot = false) : Sep (T ++ [x]) ∧ ∀ q, lotAt (T ++ [x]) q = true → q + 1 < (T ++ [x]).length := by
  refine ⟨fun q h => ?_, fun q h => ?_⟩
  · rw [lotAt_snoc] at h ⊢
    by_cases c : q < T.length
    · rw [if_pos c] at h
      rw [if_pos (hl q h), hs q h]
    · rw [if_neg c] at h
      split at h
      · rw [hx] at h; cases h
      · cases h
  · rw [lotAt_snoc] at h
    by_cases c : q < T.length
    · rw [if_pos c] at h
      have := hl q h
      rw [List.length_append]
      omega
    · rw [if_neg c] at h
      split at h
      · rw [hx] at h; cases h
      · cases h
theorem sep_lot {T : List Pt} (hs : Sep T) (hl : ∀ q, lotAt T q = true → q + 1 < T.length) : Sep (T ++ [.lot]) := fun q h => by
  rw [lotAt_snoc] at h ⊢
  by_cases c : q < T.length
  · rw [if_pos c] at h
    rw [if_pos (hl q h), hs q h]
  · rw [if_neg c] at h
    rw [if_neg (by omega)]
    split at h
    · rw [if_neg (by omega)]
    · cases h
theorem sep_lot_x {T : List Pt} {x : Pt} (hs : Sep T) (hl : ∀ q, lotAt T q = true → q + 1 < T.length) (hx : x.isLot = false) : Sep (T ++ [Pt.lot] ++ [x]) ∧ ∀ q, lotAt (T ++ [Pt.lot] ++ [x]) q = true → q + 1 < (T ++ [Pt.lot] ++ [x]).length := by
  have s1 := sep_lot hs hl
  have ln : (T ++ [Pt.lot]).length = T.length + 1 := by rw [List.length_append]; rfl
  refine ⟨fun q h => ?_, fun q h => ?_⟩
  · rw [lotAt_snoc] at h ⊢
    by_cases c : q < (T ++ [Pt.lot]).length
    · rw [if_pos c] at h
      by_cases c2 : q + 1 < (T ++ [Pt.lot]).length
      · rw [if_pos c2, s1 q h]
      · rw [if_neg c2, if_pos (by omega), hx]
    · rw [if_neg c] at h
      split at h
      · rw [hx] at h; cases h
      · cases h
  · rw [lotAt_snoc] at h
    by_cases c : q < (T ++ [Pt.lot]).length
    · rw [List.length_append, List.length_singleton]; omega
    · rw [if_neg c] at h
      split at h
      · rw [hx] at h; cases h
      · cases h
theorem RT.any {ps T : List Pt} {i : Nat} {b : Bool} (h : RT ps i T b) (e : ps[i]? = some .any) : RT ps (i + 1) (T ++ [.any]) b := by
  obtain ⟨s1, s2⟩ := sep_snoc (x := .any) h.sep h.last rfl
  refine ⟨s1, s2, ?_, fun p m => ?_, fun rest w => ?_⟩
  · have := h.len
    rw [List.length_append, List.length_singleton]
    omega
  · rcases List.mem_append.mp m with m | m
    · exact h.mem p m
    · rcases List.mem_singleton.mp m with rfl
      exact .inl (List.mem_of_getElem? e)
  · rw [take_mid e, h.eq, List.append_assoc]
    refine M_congr (fun u => ?_) w
    cases b with
    | false => exact Iff.rfl
    | true => exact M_lot_any u
theorem RT.non {ps T : List Pt} {i : Nat} {b : Bool} {p : Pt} (h : RT ps i T b) (e : ps[i]? = some p) (hp : p.isLot = false) : RT ps (i + 1) ((if b = true then T ++ [.lot] else T) ++ [p]) false := by
  have mp : p ∈ ps := List.mem_of_getElem? e
  cases b with
  | false =>
    rw [if_neg (by decide)]
    obtain ⟨s1, s2⟩ := sep_snoc (x := p) h.sep h.last hp
    refine ⟨s1, s2, ?_, fun x m => ?_, fun rest w => ?_⟩
    · have := h.len
      rw [List.length_append, List.length_singleton]
      simp at this ⊢
      omega
    · rcases List.mem_append.mp m with m | m
      · exact h.mem x m
      · rcases List.mem_singleton.mp m with rfl
        exact .inl mp
    · rw [take_mid e, h.eq, List.append_assoc]
      exact Iff.rfl
  | true =>
    rw [if_pos rfl]
    obtain ⟨s1, s2⟩ := sep_lot_x (x := p) h.sep h.last hp
    refine ⟨s1, s2, ?_, fun x m => ?_, fun rest w => ?_⟩
    · have := h.len
      rw [List.length_append, List.length_append, List.length_singleton, List.length_singleton]
      simp at this ⊢
      omega
    · rcases List.mem_append.mp m with m | m
      · rcases List.mem_append.mp m with m | m
        · exact h.mem x m
        · exact .inr (List.mem_singleton.mp m)
      · rcases List.mem_singleton.mp m with rfl
        exact .inl mp
    · rw [take_mid e, h.eq, List.append_assoc, List.append_assoc]
      exact Iff.rfl
/-- a row that a machine reads for a pattern -/
structure Norm (ps R : List Pt) : Prop where
  sep : Sep R
  len : R.length ≤ ps.length
  mem : ∀ p ∈ R, p ∈ ps ∨ p = .lot
  eq : ∀ w, M ps w ↔ M R w
theorem RT.done {ps T : List Pt} {b : Bool} (h : RT ps ps.length T b) : Norm ps (if b = true then T ++ [.lot] else T) := by
  have z := h.eq []
  rw [List.take_length, List.append_nil, List.append_nil] at z
  cases b with
  | false =>
    refine ⟨h.sep, by have := h.len; simp at this; exact this, h.mem, fun w => ?_⟩
    rw [z w, if_neg (by decide), if_neg (by decide), List.append_nil]
  | true =>
    refine ⟨sep_lot h.sep h.last, by have := h.len; rw [if_pos rfl, List.length_append]; simpa using this, fun p m => ?_, fun w => z w⟩
    rcases List.mem_append.mp m with m | m
    · exact h.mem p m
    · exact .inr (List.mem_singleton.mp m)
/-! # rows of places -/
abbrev Asc (E : List Nat) : Prop := E.Pairwise (· < ·)
theorem asc_ext : ∀ {E F : List Nat}, Asc E → Asc F → (∀ x, x ∈ E ↔ x ∈ F) → E = F
  | [], [], _, _, _ => rfl
  | [], f :: F, _, _, h => by have := (h f).mpr (.head _); cases this
  | e :: E, [], _, _, h => by have := (h e).mp (.head _); cases this
  | e :: E, f :: F, hE, hF, h => by
    obtain ⟨hE1, hE2⟩ := List.pairwise_cons.mp hE
    obtain ⟨hF1, hF2⟩ := List.pairwise_cons.mp hF
    have ef : e = f := by
      rcases List.mem_cons.mp ((h e).mp (.head _)) with z | z
      · exact z
      · rcases List.mem_cons.mp ((h f).mpr (.head _)) with y | y
        · exact y.symm
        · have a := hF1 e z
          have b := hE1 f y
          omega
    subst ef
    congr 1
    refine asc_ext hE2 hF2 fun x => ⟨fun m => ?_, fun m => ?_⟩
    · rcases List.mem_cons.mp ((h x).mp (.tail _ m)) with z | z
      · have := hE1 x m
        omega
      · exact z
    · rcases List.mem_cons.mp ((h x).mpr (.tail _ m)) with z | z
      · have := hF1 x m
        omega
      · exact z
def EndsAt (ps : List Pt) (w : List Nat) (E : List Nat) : Prop := Asc E ∧ ∀ a, a ∈ E ↔ a ≤ w.length ∧ M ps (w.take a)
theorem EndsAt.uniq {ps qs : List Pt} {w E F : List Nat} (h1 : EndsAt ps w E) (h2 : EndsAt qs w F) (h : ∀ u, M ps u ↔ M qs u) : E = F :=
  asc_ext h1.1 h2.1 fun a => by rw [h1.2, h2.2, h]
theorem EndsAt.nil (w : List Nat) : EndsAt [] w [0] := ⟨by simp, fun a => by
  rw [List.mem_singleton, M_nil]
  constructor
  · rintro rfl
    exact ⟨Nat.zero_le _, rfl⟩
  · rintro ⟨h1, h2⟩
    rcases List.take_eq_nil_iff.mp h2 with z | z
    · exact z
    · subst z
      simpa using h1⟩
def lotOf (E : List Nat) (a : Nat) : Bool := match E with
  | [] => false
  | e :: _ => decide (e ≤ a)
theorem lotOf_iff {E : List Nat} (hE : Asc E) (a : Nat) : lotOf E a = true ↔ ∃ e ∈ E, e ≤ a := by
  cases E with
  | nil => simp [lotOf]
  | cons e E =>
    show decide (e ≤ a) = true ↔ _
    constructor
    · intro h
      exact ⟨e, .head _, of_decide_eq_true h⟩
    · rintro ⟨x, m, h⟩
      refine decide_eq_true ?_
      rcases List.mem_cons.mp m with rfl | m
      · exact h
      · have := (List.pairwise_cons.mp hE).1 x m
        omega
theorem EndsAt.lot {ps : List Pt} {w E : List Nat} (h : EndsAt ps w E) : EndsAt (ps ++ [.lot]) w ((List.range (w.length + 1)).filter (lotOf E)) := by
  refine ⟨List.Pairwise.filter _ (by simpa using List.pairwise_lt_range), fun a => ?_⟩
  rw [List.mem_filter, List.mem_range, lotOf_iff h.1, M_append]
  constructor
  · rintro ⟨h1, e, m, h2⟩
    obtain ⟨h3, h4⟩ := (h.2 e).mp m
    refine ⟨by omega, e, by rw [List.length_take]; omega, by rw [List.take_take, Nat.min_eq_left h2]; exact h4, M_lot.mpr ⟨((w.take a).drop e).length, Nat.le_refl _, ?_⟩⟩
    rw [List.drop_length]
    rfl
  · rintro ⟨h1, k, hk, h2, _⟩
    rw [List.length_take] at hk
    rw [List.take_take, Nat.min_eq_left (by omega)] at h2
    exact ⟨by omega, k, (h.2 k).mpr ⟨by omega, h2⟩, by omega⟩
def tk (p : Pt) (w : List Nat) (a : Nat) : Bool := match w[a]? with
  | some c => p.takes c
  | none => false
theorem EndsAt.one {ps : List Pt} {w E : List Nat} {p : Pt} (h : EndsAt ps w E) (hp : p.isLot = false) : EndsAt (ps ++ [p]) w ((E.filter (tk p w)).map (· + 1)) := by
  refine ⟨?_, fun a => ?_⟩
  · show (List.map (· + 1) (E.filter (tk p w))).Pairwise (· < ·)
    rw [List.pairwise_map]
    exact (List.Pairwise.filter _ h.1).imp fun z => by omega
  · rw [List.mem_map]
    constructor
    · rintro ⟨b, m, rfl⟩
      obtain ⟨m, ht⟩ := List.mem_filter.mp m
      obtain ⟨h1, h2⟩ := (h.2 b).mp m
      unfold tk at ht
      rcases Nat.lt_or_ge b w.length with z | z
      · rw [List.getElem?_eq_getElem z] at ht
        refine ⟨z, M_append.mpr ⟨b, by rw [List.length_take]; omega, by rw [List.take_take, Nat.min_eq_left (by omega)]; exact h2, (M_one hp).mpr ⟨w[b], [], ?_, ht, rfl⟩⟩⟩
        rw [List.drop_take, List.drop_eq_getElem_cons z, show b + 1 - b = 1 by omega]
        rfl
      · rw [List.getElem?_eq_none z] at ht
        cases ht
    · rintro ⟨h1, h2⟩
      obtain ⟨k, hk, h3, h4⟩ := M_append.mp h2
      obtain ⟨c, v, e, ht, h5⟩ := (M_one hp).mp h4
      obtain rfl : v = [] := h5
      have el := congrArg List.length e
      rw [List.length_drop, List.length_take] at el
      simp at el
      have hk2 : k < w.length := by rw [List.length_take] at hk; omega
      have ea : a = k + 1 := by omega
      subst ea
      rw [List.take_take, Nat.min_eq_left (by omega)] at h3
      refine ⟨k, List.mem_filter.mpr ⟨(h.2 k).mpr ⟨by omega, h3⟩, ?_⟩, rfl⟩
      unfold tk
      rw [List.getElem?_eq_getElem hk2]
      rw [List.drop_take, List.drop_eq_getElem_cons hk2, show k + 1 - k = 1 by omega] at e
      obtain rfl := (List.cons.inj e).1
      exact ht
/-- what is found so far by a machine -/
def Found (ps : List Pt) (w : List Nat) (i : Nat) (E : List Nat) : Prop := Asc E ∧ ∀ a, a ∈ E ↔ a ≤ i ∧ M ps (w.take a)
theorem Found.next {ps : List Pt} {w E : List Nat} {i : Nat} (h : Found ps w i E) (b : Bool) (hb : b = true ↔ M ps (w.take (i + 1))) : Found ps w (i + 1) (if b = true then E ++ [i + 1] else E) := by
  cases b with
  | true =>
    rw [if_pos rfl]
    refine ⟨List.pairwise_append.mpr ⟨h.1, by simp, fun a m c mc => ?_⟩, fun a => ?_⟩
    · have := (h.2 a).mp m
      rcases List.mem_singleton.mp mc with rfl
      omega
    · rw [List.mem_append, List.mem_singleton, h.2]
      constructor
      · rintro (⟨h1, h2⟩ | rfl)
        · exact ⟨by omega, h2⟩
        · exact ⟨Nat.le_refl _, hb.mp rfl⟩
      · rintro ⟨h1, h2⟩
        by_cases e : a = i + 1
        · exact .inr e
        · exact .inl ⟨by omega, h2⟩
  | false =>
    rw [if_neg (by decide)]
    refine ⟨h.1, fun a => ?_⟩
    rw [h.2]
    constructor
    · rintro ⟨h1, h2⟩
      exact ⟨by omega, h2⟩
    · rintro ⟨h1, h2⟩
      by_cases e : a = i + 1
      · subst e
        have := hb.mpr h2
        cases this
      · exact ⟨by omega, h2⟩
end Qb
end PySem
namespace PySem
namespace Qb
open PySem.W PySem.Calls PyProof.Rows L2
def top (i : Nat) : Stmt := PySem.Challenge.pw_quotedback_k22_no_patterns.main.body.getD i (.Pass ⟨0, 0, 0, 0⟩)
/-- names of the machine that the text's top leaves as they are -/
structure Blt (mg : Str → Option Value) : Prop where
  abs : mg "abs" = none
  int : mg "int" = none
  len : mg "len" = none
  range : mg "range" = none
  isi : mg "isinstance" = none
  all : mg "all" = none
  max : mg "max" = none
  min : mg "min" = none
  list : mg "list" = none
  tuple : mg "tuple" = none
  str : mg "str" = none
  bool : mg "bool" = none
  dict : mg "dict" = none
  ve : mg "ValueError" = none
/-- what the text's top says of its written things -/
structure Wrt (mg : Str → Option Value) : Prop where
  signs : ∃ t, mg "SIGNS" = some (.str signsS t)
theorem small_line {n : Nat} (h : n ≤ 1000000) : n ≤ sizeLine := by
  rw [sizeLine_eq]
  omega
/-- a def that may raise -/
def HasX (P : Program) (w : World) (K : Frag) (mg : Str → Option Value) (base : Heap) (k : Nat) (x : Str) (ps : List Str) (sp : Sp) : Prop :=
  ∃ (f : Addr) (fd : FuncData), mg x = some (.ref f) ∧ PySem.W.keepIn K (.ref f) = true ∧ Binds K fd ps [] ∧ FnOk P w K mg base (L2.CX P w) k f fd ps sp
theorem hasX_of {P : Program} {w : World} {K : Frag} {mg : Str → Option Value} {base : Heap} {k : Nat} {x qual : Str} {st : Stmt} {f : Addr} {fd : FuncData} {ps : List Str} {sp : Sp} (F : Fun K x qual st f fd) (g : mg x = some (.ref f)) (b : Binds K fd ps []) (o : FnOk P w K mg base (L2.CX P w) k f fd ps sp) : HasX P w K mg base k x ps sp := ⟨f, fd, g, F.kp, b, o⟩
/-! # tuples of patterns, good and bad ones -/
def txD (xs : List Str) : PyData := .tuple (xs.map .str)
def rrD (rs : List (List Str)) : PyData := .list (rs.map txD)
inductive Pd where
  | txt (xs : List Str)
  | of (no : Bool) (rs : List (List Str))
  | ofs (no : Bool)
  | ofm (no : Bool) (rs : List (List Str)) (c : Str)
def Pd.d : Pd → PyData
  | .txt xs => txD xs
  | .of no rs => .tuple [.str "of", .bool no, rrD rs]
  | .ofs no => .tuple [.str "of", .bool no]
  | .ofm no rs c => .tuple [.str "of", .bool no, rrD rs, .str c]
def sgB (x : Str) : Bool := match cs x with
  | [c] => decide (c ∈ cs signsS)
  | _ => false
def rgB : List Str → Bool
  | [a, b] => sgB a && (sgB b && !decide (b.cps.toList < a.cps.toList))
  | _ => false
def txB : List Str → Bool
  | [x] => x == "any" || x == "lot"
  | [x, y] => x == "one" && sgB y
  | _ => false
def Pd.ok : Pd → Bool
  | .txt xs => txB xs
  | .of _ rs => !rs.isEmpty && rs.all rgB
  | _ => false
def okTx (x : Str) : Prop := x.length ≤ 9 ∧ PyData.strOk x = true
def fineR (rs : List (List Str)) : Prop := rs.length ≤ 10 ∧ ∀ r ∈ rs, r.length ≤ 3 ∧ ∀ x ∈ r, okTx x
def Pd.fine : Pd → Prop
  | .txt xs => xs.length ≤ 3 ∧ (∀ x ∈ xs, okTx x) ∧ (xs.length = 3 → xs.head? ≠ some "of")
  | .of _ rs => fineR rs
  | .ofs _ => True
  | .ofm _ rs c => fineR rs ∧ okTx c
def patD (ps : List Pd) : PyData := .list (ps.map Pd.d)
def finePs (ps : List Pd) : Prop := ps.length ≤ 100 ∧ ∀ p ∈ ps, p.fine
def okPs (ps : List Pd) : Bool := ps.all Pd.ok
theorem dp_txs {K : Frag} {H : Hp} {v : V} {xs : List Str} (h : Dp K H v (txD xs)) : ∃ a, v = .ref a ∧ SqT K H a (xs.map V.str) := by
  obtain ⟨a, ys, rfl, q, al⟩ := dp_tup h
  have e : ∀ {xs : List Str} {ys : List V}, DpAll K H ys (xs.map .str) → ys = xs.map V.str := by
    intro xs
    induction xs with
    | nil => intro ys al; cases al; rfl
    | cons x xs ih =>
      intro ys al
      cases al with
      | cons h t =>
        obtain rfl := dp_str h
        rw [ih t]
        rfl
  rw [e al] at q
  exact ⟨a, rfl, q⟩
theorem len_one {x : Str} (h : x.length = 1) : ∃ c, x = sg c := by
  obtain ⟨a⟩ := x
  have h' : a.size = 1 := h
  refine ⟨a[0], ?_⟩
  show (⟨a⟩ : Str) = ⟨#[a[0]]⟩
  congr 1
  apply Array.ext
  · simpa using h'
  · intro i h1 h2
    have : i = 0 := by simp at h2; omega
    subst this
    rfl
theorem sgB_sg (c : Nat) : sgB (sg c) = decide (c ∈ cs signsS) := rfl
theorem sgB_no {x : Str} (h : x.length ≠ 1) : sgB x = false := by
  unfold sgB
  have e := len_cs x
  split
  · rename_i c hc
    rw [hc] at e
    exact absurd e h
  · rfl
theorem rgB_two (x y : Str) : rgB [x, y] = (sgB x && (sgB y && !decide (y.cps.toList < x.cps.toList))) := rfl
theorem rgB_len {r : List Str} (h : (r.map V.str).length ≠ 2) : rgB r = false := by
  rw [List.length_map] at h
  rcases r with _ | ⟨a, _ | ⟨b, _ | ⟨c, r⟩⟩⟩
  · rfl
  · rfl
  · exact absurd rfl h
  · rfl
theorem two_txs {r : List Str} (h : (r.map V.str).length = 2) : ∃ x y, r = [x, y] := by
  rw [List.length_map] at h
  rcases r with _ | ⟨a, _ | ⟨b, _ | ⟨c, r⟩⟩⟩
  · cases h
  · cases h
  · exact ⟨a, b, rfl⟩
  · simp at h
def spSg : Sp := fun vs H Q _ => ∃ x, vs = [.str x] ∧ x.length ≤ 100 ∧ ∀ H', Same H H' → Q (.bl (sgB x)) H'
def spRg (K : Frag) : Sp := fun vs H Q _ => ∃ v r, vs = [v] ∧ Dp K H v (txD r) ∧ r.length ≤ 3 ∧ (∀ x ∈ r, okTx x) ∧ ∀ H', Same H H' → Q (.bl (rgB r)) H'
def spPp (K : Frag) : Sp := fun vs H Q _ => ∃ v p, vs = [v] ∧ Dp K H v (Pd.d p) ∧ p.fine ∧ ∀ H', Same H H' → Q (.bl p.ok) H'
def spPa (K : Frag) : Sp := fun vs H Q _ => ∃ (v : V) (ps : List Pd), vs = [v] ∧ Dp K H v (patD ps) ∧ finePs ps ∧ ∀ H', Same H H' → Q (.bl (okPs ps)) H'
theorem sh_txs {xs : List Str} (h : ∀ x ∈ xs, okTx x) : Sh 1 (txD xs) := sh_tup fun d m => by
  obtain ⟨x, mx, rfl⟩ := List.mem_map.mp m
  exact sh_str (h x mx).2
theorem sh_rrs {rs : List (List Str)} (h : fineR rs) : Sh 2 (rrD rs) := sh_lst fun d m => by
  obtain ⟨r, mr, rfl⟩ := List.mem_map.mp m
  exact sh_txs (h.2 r mr).2
section
variable {P : Program} {w : World} {K : Frag} {mg : Str → Option Value} {base : Heap}
abbrev sSg : Stmt := top 9
abbrev nSg : List Str := ["text"]
theorem scSg : FnScope nSg ["text"] (defScope sSg) := ⟨rfl, rfl, rfl, by decide +kernel, rfl, by decide +kernel, by decide +kernel⟩
theorem has_Sg {f : Addr} {fd : FuncData} (F : Fun K "is_sign" "is_sign" sSg f fd) (g : mg "is_sign" = some (.ref f)) (B : Blt mg) (W : Wrt mg) :
    Has P w K mg base 1 "is_sign" ["text"] spSg := by
  refine has_of F g (F.binds (ps := ["text"]) fun _ _ _ _ _ _ us hl => match us, hl with | [_], _ => rfl) (F.ok scSg (fun vs H Q E h => ?_) (fun cdv A outer s H vs Q E hr h => ?_))
  · obtain ⟨x, rfl, _⟩ := h
    rfl
  · refine ⟨_, (pss_one (ps_ret (pe_and (pe_callB call_isi (by rfl) B.isi (by decide +kernel) (pa_cons (pv 0) (pa_cons (pe_bltn (v := .ty "str") (by rfl) B.str (by decide +kernel) rfl) pa_nil))) (pe_and (pe_cmpR op_eq (pe_callB call_len (by rfl) B.len PySem.boot_len (pa_cons (pv 0) pa_nil)) pe_int (nomark _)) (pe_one (pe_cmpR op_in_sign (pv 0) (glob_str (by rfl) W.signs) (by rfl))))))), ?_⟩
    obtain ⟨x, rfl, lx, k⟩ := h
    refine ⟨_, rfl, .str x, .ty "str", .type "str", .type "str", true, rfl, .ty _, .base (.str x), kit_ty (by decide +kernel), _, rfl, if_yes rfl ⟨_, rfl, .str x, x.length, rfl, ⟨small_line (by omega), rfl⟩, rfl, _, rfl, ?_⟩⟩
    by_cases e : x.length = 1
    · obtain ⟨c, rfl⟩ := len_one e
      refine if_yes (by simp [e]) ⟨_, rfl, c, signsS, rfl, rfl, ?_⟩
      exact k H (Same.refl H)
    · refine if_no (by simp; omega) ?_
      have z := k H (Same.refl H)
      rw [sgB_no e] at z
      exact z
abbrev sRg : Stmt := top 19
abbrev nRg : List Str := ["told", "first", "last"]
theorem scRg : FnScope nRg ["told"] (defScope sRg) := ⟨rfl, rfl, rfl, by decide +kernel, rfl, by decide +kernel, by decide +kernel⟩
theorem has_Rg {f : Addr} {fd : FuncData} (F : Fun K "is_range" "is_range" sRg f fd) (g : mg "is_range" = some (.ref f)) (B : Blt mg) (hSg : Has P w K mg base 1 "is_sign" ["text"] spSg) :
    Has P w K mg base 2 "is_range" ["told"] (spRg K) := by
  obtain ⟨fSg, dSg, gSg, kSg, bSg, GSg⟩ := hSg
  refine has_of F g (F.binds (ps := ["told"]) fun _ _ _ _ _ _ us hl => match us, hl with | [_], _ => rfl) (F.ok scRg (fun vs H Q E h => ?_) (fun cdv A outer s H vs Q E hr h => ?_))
  · obtain ⟨v, r, rfl, _⟩ := h
    rfl
  · refine ⟨_, (pss_cons (ps_match (pv 0)
        (pcs_cons (is := [1, 2]) scRg.nd (pp_seq rfl (pps_cons pp_cap (pps_cons pp_cap pps_nil))) (.cons ⟨rfl, .inl rfl, .inr rfl⟩ (.cons ⟨rfl, .inl rfl, .inr rfl⟩ .nil))
          (pss_one (ps_ret (pe_and (pe_call GSg hr rfl gSg kSg bSg .nil pass0 (pa_cons (pv 1) pa_nil)) (pe_and (pe_call GSg hr rfl gSg kSg bSg .nil pass0 (pa_cons (pv 2) pa_nil)) (pe_one (pe_cmpR op_le_str (pv 1) (pv 2) (nomark _))))))) pcs_nil))
        (pss_one (ps_ret pe_bl))), ?_⟩
    obtain ⟨v, r, rfl, hd, hl, ho, k⟩ := h
    obtain ⟨a, rfl, hq⟩ := dp_txs hd
    refine ⟨_, rfl, a, _, rfl, hq, fun z => ?_, fun z => ?_⟩
    · have e : rgB r = false := rgB_len z
      rw [e] at k
      exact k H (Same.refl H)
    · obtain ⟨x, y, rfl⟩ := two_txs z
      refine ⟨_, rfl, x, rfl, Nat.le_trans (ho x (.head _)).1 (by decide), fun H1 s1 => ⟨_, rfl, ?_⟩⟩
      cases ex : sgB x with
      | false =>
        refine if_no rfl ?_
        have z := k H1 s1
        rw [rgB_two, ex] at z
        exact z
      | true =>
        refine if_yes rfl ⟨_, rfl, y, rfl, Nat.le_trans (ho y (.tail _ (.head _))).1 (by decide), fun H2 s2 => ⟨_, rfl, ?_⟩⟩
        cases ey : sgB y with
        | false =>
          refine if_no rfl ?_
          have z := k H2 (s1.trans s2)
          rw [rgB_two, ex, ey] at z
          exact z
        | true =>
          refine if_yes rfl ⟨_, rfl, _, rfl, x, y, rfl, rfl, ?_⟩
          have z := k H2 (s1.trans s2)
          rw [rgB_two, ex, ey] at z
          exact z
end
end Qb
end PySem
namespace PySem
namespace Qb
open PySem.W PySem.Calls PyProof.Rows L2
theorem all_map {α : Type} (l : List α) (f : α → Bool) : (l.map f).all id = l.all f := by
  rw [List.all_map]
  rfl
section
variable {P : Program} {w : World} {K : Frag} {mg : Str → Option Value} {base : Heap}
abbrev sPp : Stmt := top 18
abbrev nPp : List Str := ["piece", "sign", "ranges", "told"]
theorem scPp : FnScope nPp ["piece"] (defScope sPp) := ⟨rfl, rfl, rfl, by decide +kernel, rfl, by decide +kernel, by decide +kernel⟩
theorem has_Pp {f : Addr} {fd : FuncData}  (F : Fun K "is_pattern_piece" "is_pattern_piece" sPp f fd) (g : mg "is_pattern_piece" = some (.ref f)) (B : Blt mg) (hSg : Has P w K mg base 1 "is_sign" ["text"] (spSg)) (hRg : Has P w K mg base 2 "is_range" ["told"] (spRg K)) :
    Has P w K mg base 3 "is_pattern_piece" ["piece"] (spPp K) := by
  obtain ⟨fSg, dSg, gSg, kSg, bSg, GSg⟩ := hSg
  obtain ⟨fRg, dRg, gRg, kRg, bRg, GRg⟩ := hRg
  refine has_of F g (F.binds (ps := ["piece"]) fun _ _ _ _ _ _ us hl => match us, hl with | [_], _ => rfl) (F.ok scPp (fun vs H Q E h => ?_) (fun cdv A outer s H vs Q E hr h => ?_))
  · obtain ⟨v, p, rfl, _⟩ := h
    rfl
  · refine ⟨_, (pss_cons (ps_match (pv 0)
        (pcs_cons (is := []) scPp.nd (pp_or (pf_cons (pp_seq rfl (pps_cons pp_lit pps_nil)) (pf_cons (pp_seq rfl (pps_cons pp_lit pps_nil)) pf_nil))) .nil
          (pss_one (ps_ret pe_bl))
        (pcs_cons (is := [1]) scPp.nd (pp_seq rfl (pps_cons pp_lit (pps_cons pp_cap pps_nil))) (.cons ⟨rfl, .inl rfl, .inr rfl⟩ .nil)
          (pss_one (ps_ret (pe_call GSg (hr.mono (by decide)) rfl gSg kSg bSg .nil pass0 (pa_cons (pv 1) pa_nil))))
        (pcs_cons (is := [2]) scPp.nd (pp_seq rfl (pps_cons pp_lit (pps_cons (pp_or (pf_cons pp_bool (pf_cons pp_bool pf_nil))) (pps_cons pp_cap pps_nil)))) (.cons ⟨rfl, .inl rfl, .inr rfl⟩ .nil)
          (pss_one (ps_ret (pe_and (pe_callB call_isi (by rfl) B.isi (by decide +kernel) (pa_cons (pv 2) (pa_cons (pe_bltn (v := .ty "list") (by rfl) B.list (by decide +kernel) rfl) pa_nil))) (pe_and (pe_cmpR (op_neD hr.units) (pv 2) (pe_lst pa_nil) (nomark _)) (pe_one (pe_callB (cr_all rfl) (by rfl) B.all (by decide +kernel) (pa_cons (pe_lc (own := [("told", 3)]) (g := gName 3) (tt := tYes) rfl scPp.nd (pi_list (pv 2)) (blkOk_by (N := nPp) (sc := defScope sPp) (by decide +kernel)) (fun _ _ _ _ _ => pg_name (i := 3) scPp.nd rfl (.inl rfl)) (fun _ _ _ _ _ => pts_nil) (fun _ _ _ _ _ => (pe_call GRg hr rfl gRg kRg bRg .nil pass0 (pa_cons (pv 3) pa_nil)))) pa_nil))))))) pcs_nil))))
        (pss_one (ps_ret pe_bl))), ?_⟩
    obtain ⟨v, p, rfl, hd, hf, k⟩ := h
    have k0 : Q (.bl p.ok) H := k H (Same.refl H)
    have oth : ∀ {a xs} {is : List Nat} {t : TS} {D : Ends} {σ : L2.St} {rest : List (List Nat × PatR × TS)}, SqT K H a xs → xs.length ≠ 1 → tCases rest (.ref a) D σ H → tCases ((is, rOr [rSeq K 1 [rLit "any"], rSeq K 1 [rLit "lot"]], t) :: rest) (.ref a) D σ H := fun hq ne q =>
      ⟨_, _, rfl, hq, fun _ => ⟨_, _, rfl, hq, fun _ => q, fun z => (ne z).elim⟩, fun z => (ne z).elim⟩
    have non : ∀ {a xs} {n : Nat} {is : List Nat} {rs : List PatR} {t : TS} {D : Ends} {σ : L2.St} {rest : List (List Nat × PatR × TS)}, SqT K H a xs → xs.length ≠ n → tCases rest (.ref a) D σ H → tCases ((is, rSeq K n rs, t) :: rest) (.ref a) D σ H := fun hq ne q =>
      ⟨_, _, rfl, hq, fun _ => q, fun z => (ne z).elim⟩
    cases p with
    | txt xs =>
      obtain ⟨a, rfl, hq⟩ := dp_txs hd
      obtain ⟨l3, ho, hof⟩ := hf
      rcases xs with _ | ⟨x, _ | ⟨y, _ | ⟨z, _ | ⟨z4, xs⟩⟩⟩⟩
      · exact ⟨_, rfl, oth hq (by simp) (non hq (by simp) (non hq (by simp) k0))⟩
      · refine ⟨_, rfl, a, _, rfl, hq, fun z => (z rfl).elim, fun _ => ⟨x, rfl, ?_⟩⟩
        by_cases e1 : x = "any"
        · subst e1
          exact k0
        · rw [if_neg e1]
          refine ⟨a, _, rfl, hq, fun z => (z rfl).elim, fun _ => ⟨x, rfl, ?_⟩⟩
          by_cases e2 : x = "lot"
          · subst e2
            exact k0
          · rw [if_neg e2]
            refine non hq (by simp) (non hq (by simp) ?_)
            have e : Pd.ok (.txt [x]) = false := by
              show (x == "any" || x == "lot") = false
              rw [beq_eq_false_iff_ne.mpr e1, beq_eq_false_iff_ne.mpr e2]
              rfl
            rw [e] at k0
            exact k0
      · refine ⟨_, rfl, oth hq (by simp) ?_⟩
        by_cases e1 : x = "one"
        · subst e1
          refine case_hit hq hit_lit ⟨_, rfl, y, rfl, Nat.le_trans (ho y (.tail _ (.head _))).1 (by decide), k⟩
        · refine case_miss hq (.inl (miss_lit e1)) (non hq (by simp) ?_)
          have e : Pd.ok (.txt [x, y]) = false := by
            show (x == "one" && sgB y) = false
            rw [beq_eq_false_iff_ne.mpr e1]
            rfl
          rw [e] at k0
          exact k0
      · have ne : x ≠ "of" := fun z => hof rfl (by rw [z]; rfl)
        exact ⟨_, rfl, oth hq (by simp) (non hq (by simp) (case_miss hq (.inl (miss_lit ne)) k0))⟩
      · simp at l3
    | ofs no =>
      obtain ⟨a, x, rfl, hq, hx⟩ := pc_two hd
      exact ⟨_, rfl, oth hq (by simp) (case_miss hq (.inl (miss_lit (by decide +kernel))) (non hq (by simp) k0))⟩
    | ofm no rs c =>
      obtain ⟨a, xs, rfl, hq, all⟩ := dp_tup hd
      have l4 := dpLen all
      have l4 : xs.length = 4 := l4
      exact ⟨_, rfl, oth hq (by omega) (non hq (by rw [l4]; decide) (non hq (by rw [l4]; decide) k0))⟩
    | of no rs =>
      obtain ⟨a, x, y, rfl, hq, hx, hy⟩ := pc_three hd
      obtain ⟨b, ys, rfl, hb, all⟩ := dp_lst hy
      have ly := dpLen all
      rw [List.length_map] at ly
      have hl : rs.length ≤ 10 := hf.1
      refine ⟨_, rfl, oth hq (by simp) (non hq (by simp) ⟨a, _, rfl, hq, fun z => (z rfl).elim, fun _ => ⟨"of", rfl, ?_⟩⟩)⟩
      cases hx
      refine either_bool ?_
      refine ⟨_, rfl, .ref b, .ty "list", .type "list", .type "list", true, rfl, .ty _, ty_lst hb, kit_ty (by decide +kernel), _, rfl, if_yes rfl ?_⟩
      refine ⟨_, rfl, (by decide : 0 ≤ sizeLine), fun e ne => ?_⟩
      have s1 := same_upd (o := .lst []) ne
      refine ⟨rrD rs, .list [], dp_same s1 hy, .lst (SqL.of upd_same) .nil, sh_ok (sh_rrs hf), by decide, _, rfl, ?_⟩
      rw [show PyData.eqv (rrD rs) (.list []) = (rs.map txD).isEmpty from eqv_nil _]
      rcases rs with _ | ⟨r0, rs⟩
      · exact if_no rfl (k _ s1)
      · refine if_yes rfl ?_
        refine ⟨_, rfl, b, rfl, ⟨_, s1.seq hb⟩, fun D hD => lc_all (bs := (r0 :: rs).map rgB) (s1.seq hb) hD (by rw [List.length_map, ly]) (by rw [ly]; omega) (fun i x b' H' Q' hx hb' s2 q => ?_) (fun H1 s2 q1 => ?_)⟩
        · obtain ⟨d, hdi, dp⟩ := dpAt' all hx
          rw [List.getElem?_map] at hdi hb'
          cases ep : (r0 :: rs)[i]? with
          | none => rw [ep] at hdi; cases hdi
          | some r =>
            rw [ep] at hdi hb'
            obtain rfl := Option.some.inj hdi
            obtain rfl := Option.some.inj hb'
            have fr := hf.2 r (List.mem_of_getElem? ep)
            exact ⟨rfl, _, rfl, _, r, rfl, dp_same (s1.trans s2) dp, fr.1, fr.2, q⟩
        · refine ⟨D, _, rfl, q1, ?_⟩
          have z := k _ (s1.trans s2)
          rw [all_map]
          exact z
abbrev sPa : Stmt := top 17
abbrev nPa : List Str := ["pattern", "piece"]
theorem scPa : FnScope nPa ["pattern"] (defScope sPa) := ⟨rfl, rfl, rfl, by decide +kernel, rfl, by decide +kernel, by decide +kernel⟩
theorem has_Pa {f : Addr} {fd : FuncData}  (F : Fun K "is_pattern" "is_pattern" sPa f fd) (g : mg "is_pattern" = some (.ref f)) (B : Blt mg) (hPp : Has P w K mg base 3 "is_pattern_piece" ["piece"] (spPp K)) :
    Has P w K mg base 4 "is_pattern" ["pattern"] (spPa K) := by
  obtain ⟨fPp, dPp, gPp, kPp, bPp, GPp⟩ := hPp
  refine has_of F g (F.binds (ps := ["pattern"]) fun _ _ _ _ _ _ us hl => match us, hl with | [_], _ => rfl) (F.ok scPa (fun vs H Q E h => ?_) (fun cdv A outer s H vs Q E hr h => ?_))
  · obtain ⟨v, ps, rfl, _⟩ := h
    rfl
  · refine ⟨_, (pss_one (ps_ret (pe_callB (cr_all rfl) (by rfl) B.all (by decide +kernel) (pa_cons (pe_lc (own := [("piece", 1)]) (g := gName 1) (tt := tYes) rfl scPa.nd (pi_list (pv 0)) (blkOk_by (N := nPa) (sc := defScope sPa) (by decide +kernel)) (fun _ _ _ _ _ => pg_name (i := 1) scPa.nd rfl (.inl rfl)) (fun _ _ _ _ _ => pts_nil) (fun _ _ _ _ _ => (pe_call GPp hr rfl gPp kPp bPp .nil pass0 (pa_cons (pv 1) pa_nil)))) pa_nil)))), ?_⟩
    obtain ⟨v, ps, rfl, hd, hf, k⟩ := h
    obtain ⟨a, xs, rfl, hq, all⟩ := dp_lst hd
    have lx := dpLen all
    rw [List.length_map] at lx
    have l100 := hf.1
    refine ⟨_, rfl, a, rfl, ⟨_, hq⟩, fun D hD => lc_all (bs := ps.map Pd.ok) hq hD (by rw [List.length_map, lx]) (by rw [lx]; omega) (fun i x b H' Q' hx hb s1 q => ?_) (fun H1 s1 q1 => ?_)⟩
    · obtain ⟨d, hdi, dp⟩ := dpAt' all hx
      rw [List.getElem?_map] at hdi hb
      cases ep : ps[i]? with
      | none => rw [ep] at hdi; cases hdi
      | some p =>
        rw [ep] at hdi hb
        obtain rfl := Option.some.inj hdi
        obtain rfl := Option.some.inj hb
        exact ⟨rfl, _, rfl, _, p, rfl, dp_same s1 dp, hf.2 p (List.mem_of_getElem? ep), q⟩
    · refine ⟨D, _, rfl, q1, ?_⟩
      rw [all_map]
      exact k _ s1
end
end Qb
end PySem
namespace PySem
namespace Qb
open PySem.W PySem.Calls PyProof.Rows L2
section
variable {P : Program} {w : World} {K : Frag} {mg : Str → Option Value} {base : Heap}
abbrev sIn : Stmt := inClass (top 3) 0
theorem scIn : FnScope ["self", "value"] ["self", "value"] (defScope sIn) := ⟨rfl, rfl, rfl, by decide +kernel, rfl, by decide +kernel, by decide +kernel⟩
theorem ok_In {f : Addr} {fd : FuncData} (F : Fun K "__init__" "ShellError.__init__" sIn f fd) : FnOk P w K mg base CX0 1 f fd ["self", "value"] (spInit K) := by
  refine F.ok scIn (fun vs H Q E h => ?_) (fun cdv A outer s H vs Q E hr h => ⟨_, pss_one (ps_ost (pv 0) (pv 1)), ?_⟩)
  · obtain ⟨a, C, v, rfl, _⟩ := h
    rfl
  · obtain ⟨a, C, v, rfl, T, hno, ha, k⟩ := h
    exact ⟨_, rfl, _, rfl, a, C, rfl, T, hno, .inl ⟨ha, fun dx nd ne => k dx nd ne⟩⟩
abbrev sFr : Stmt := top 1
abbrev nFr : List Str := ["thing", "table", "key", "parts", "part"]
theorem scFr : FnScope nFr ["thing"] (defScope sFr) := ⟨rfl, rfl, rfl, by decide +kernel, rfl, by decide +kernel, by decide +kernel⟩
theorem ok_Fr {f : Addr} {fd : FuncData} (F : Fun K "fresh" "fresh" sFr f fd) (g : mg "fresh" = some (.ref f)) (b : Binds K fd ["thing"] []) (B : Blt mg) : ∀ n, FnOk P w K mg base CX0 (n + 1) f fd ["thing"] (spOw K n)
  | 0 => F.ok scFr (fun vs H Q E h => h.elim) (fun cdv A outer s H vs Q E hr h => h.elim)
  | n + 1 => by
    have GFr := ok_Fr F g b B n
    refine F.ok scFr (fun vs H Q E h => ?_) (fun cdv A outer s H vs Q E hr h => ?_)
    · obtain ⟨v, d, rfl, _⟩ := h
      rfl
    · obtain ⟨v, d, rfl, hv, hp, k⟩ := h
      rcases pl_cases hp with h0 | ⟨m, ds, rfl, h1, h2, h3⟩
      · refine ⟨_, (pss_cons (ps_if (pt_val (pe_callB call_isi (by rfl) B.isi (by decide +kernel) (pa_cons (pv 0) (pa_cons (pe_bltn (v := .ty "dict") (by rfl) B.dict (by decide +kernel) rfl) pa_nil)))) pss_never pss_nil)
          (pss_cons (ps_if (pt_not (pt_val (pe_callB call_isiT (by rfl) B.isi (by decide +kernel) (pa_cons (pv 0) (pa_cons (pe_tup (pa_cons (pe_bltn (v := .ty "list") (by rfl) B.list (by decide +kernel) rfl) (pa_cons (pe_bltn (v := .ty "tuple") (by rfl) B.tuple (by decide +kernel) rfl) pa_nil))) pa_nil))))) (pss_one (ps_ret (pv 0))) pss_nil) pss_never)), ?_⟩
        obtain ⟨hw, t, ht, hn⟩ := pl0_ty h0 hv
        obtain ⟨n1, n2, n3⟩ := flat_no (K := K) hn
        refine ⟨_, rfl, v, .ty "dict", _, .type "dict", false, rfl, .ty _, ht, n3, _, rfl, if_no rfl ?_⟩
        refine ⟨_, rfl, (by decide : 2 ≤ sizeLine), fun T nT => ⟨v, T, _, _, [.type "list", .type "tuple"], false, rfl, upd_same, .cons (.ty _) (.cons (.ty _) .nil), ?_, kan n1 (kan n2 kitAny_nil), _, rfl, if_yes rfl ⟨_, rfl, ?_⟩⟩⟩
        · rcases h0 with ⟨x, rfl⟩ | ⟨x, rfl⟩ | ⟨x, rfl⟩ | rfl <;> cases hv <;> cases ht <;> rename_i z <;> cases z <;> constructor <;> constructor
        · exact k _ v [] (same_upd nT) (ow_same (same_upd nT) hw) fun b m => by cases m
      · rcases h1 with rfl | rfl
        · obtain ⟨a, xs, rfl, hq, all⟩ := dp_lst hv
          have lx := dpLen all
          refine ⟨_, (pss_cons (ps_if (pt_val (pe_callB call_isi (by rfl) B.isi (by decide +kernel) (pa_cons (pv 0) (pa_cons (pe_bltn (v := .ty "dict") (by rfl) B.dict (by decide +kernel) rfl) pa_nil)))) pss_never pss_nil)
            (pss_cons (ps_if (pt_not (pt_val (pe_callB call_isiT (by rfl) B.isi (by decide +kernel) (pa_cons (pv 0) (pa_cons (pe_tup (pa_cons (pe_bltn (v := .ty "list") (by rfl) B.list (by decide +kernel) rfl) (pa_cons (pe_bltn (v := .ty "tuple") (by rfl) B.tuple (by decide +kernel) rfl) pa_nil))) pa_nil))))) pss_never pss_nil)
            (pss_cons (ps_set (i := 3) scFr.nd rfl (.inl rfl) (pe_lst pa_nil))
            (pss_cons (ps_for PassesOwn.never rfl (pi_list (pv 0)) (pg_name (i := 4) scFr.nd rfl (.inl rfl))
              (pss_one (ps_expr (pe_bm PySem.F.plainAttrs_list PySem.F.slot_list_append PySem.F.type_list_append mt_append (pv 3) (pa_cons (pe_call GFr hr rfl g F.kp b .nil pass0 (pa_cons (pv 4) pa_nil)) pa_nil)))))
            (pss_one (ps_ret (pe_ifExp (pt_val (pe_callB call_isi (by rfl) B.isi (by decide +kernel) (pa_cons (pv 0) (pa_cons (pe_bltn (v := .ty "list") (by rfl) B.list (by decide +kernel) rfl) pa_nil)))) (pv 3) pe_never))))))), ?_⟩
          refine ⟨_, rfl, .ref a, .ty "dict", .type "list", .type "dict", false, rfl, .ty _, ty_lst hq, kit_ty (by decide +kernel), _, rfl, if_no rfl ?_⟩
          refine ⟨_, rfl, (by decide : 2 ≤ sizeLine), fun T nT => ?_⟩
          have s1 := same_upd (o := .tup [.ty "list", .ty "tuple"]) nT
          have hq1 := s1.seq hq
          refine ⟨.ref a, T, _, .type "list", [.type "list", .type "tuple"], true, rfl, upd_same, .cons (.ty _) (.cons (.ty _) .nil), ty_lst hq1, kay (kit_ty (by decide +kernel)), _, rfl, if_no rfl ?_⟩
          refine ⟨(by decide : 0 ≤ sizeLine), fun D nD => ?_⟩
          refine ⟨_, rfl, a, rfl, ⟨_, (same_upd nD).seq hq1⟩, for_list (xs := xs) (fun i σ H' => (∃ y, σ = [some (.ref a), none, none, some (.ref D), y]) ∧ OwB K (L2.upd H T (.tup [.ty "list", .ty "tuple"])) H' D (ds.take i)) ⟨⟨_, rfl⟩, OwB.new nD⟩ (fun i σ H' _ e => e.2.base.seq hq1) (fun i x σ H' hx e => ?_) (fun σ H' e => ?_)⟩
          · obtain ⟨⟨y, rfl⟩, e⟩ := e
            obtain ⟨d, hdi, dx⟩ := dpAt' all hx
            obtain ⟨ys0, hy0⟩ := e.there
            refine ⟨_, rfl, .inl ⟨rfl, _, SqL.of hy0⟩, _, rfl, x, d, rfl, dp_same (s1.trans e.base) dx, h3 d (List.mem_of_getElem? hdi), fun H3 u S s3 hu nS => ?_⟩
            obtain ⟨ys, hy, ly, put⟩ := e.put s3
            refine ⟨D, ys, _, rfl, rfl, hy, by rw [ly, List.length_take, sizeLine_eq]; omega, ⟨_, rfl⟩, ?_⟩
            rw [take_snoc hdi]
            exact put u d S hu nS
          · obtain ⟨⟨y, rfl⟩, e⟩ := e
            rw [lx, List.take_length] at e
            refine ⟨_, rfl, .ref a, .ty "list", .type "list", .type "list", true, rfl, .ty _, ty_lst (e.base.seq hq1), kit_ty (by decide +kernel), _, rfl, if_yes rfl ⟨_, rfl, ?_⟩⟩
            have base := e.base
            obtain ⟨n, s0, ys, S, hy, al, nS, nD⟩ := e
            refine k _ _ (D :: S) (s1.trans base) (.lst hy al nD) fun b m => ?_
            rcases List.mem_cons.mp m with rfl | m
            · exact s1.free n
            · exact s1.free (nS b m)
        · obtain ⟨a, xs, rfl, hq, all⟩ := dp_tup hv
          have lx := dpLen all
          refine ⟨_, (pss_cons (ps_if (pt_val (pe_callB call_isi (by rfl) B.isi (by decide +kernel) (pa_cons (pv 0) (pa_cons (pe_bltn (v := .ty "dict") (by rfl) B.dict (by decide +kernel) rfl) pa_nil)))) pss_never pss_nil)
            (pss_cons (ps_if (pt_not (pt_val (pe_callB call_isiT (by rfl) B.isi (by decide +kernel) (pa_cons (pv 0) (pa_cons (pe_tup (pa_cons (pe_bltn (v := .ty "list") (by rfl) B.list (by decide +kernel) rfl) (pa_cons (pe_bltn (v := .ty "tuple") (by rfl) B.tuple (by decide +kernel) rfl) pa_nil))) pa_nil))))) pss_never pss_nil)
            (pss_cons (ps_set (i := 3) scFr.nd rfl (.inl rfl) (pe_lst pa_nil))
            (pss_cons (ps_for PassesOwn.never rfl (pi_tup (pv 0)) (pg_name (i := 4) scFr.nd rfl (.inl rfl))
              (pss_one (ps_expr (pe_bm PySem.F.plainAttrs_list PySem.F.slot_list_append PySem.F.type_list_append mt_append (pv 3) (pa_cons (pe_call GFr hr rfl g F.kp b .nil pass0 (pa_cons (pv 4) pa_nil)) pa_nil)))))
            (pss_one (ps_ret (pe_ifExp (pt_val (pe_callB call_isi (by rfl) B.isi (by decide +kernel) (pa_cons (pv 0) (pa_cons (pe_bltn (v := .ty "list") (by rfl) B.list (by decide +kernel) rfl) pa_nil)))) pe_never (pe_callTy call_tuple_of (by rfl) B.tuple (by decide +kernel) (pa_cons (pv 3) pa_nil))))))))), ?_⟩
          refine ⟨_, rfl, .ref a, .ty "dict", .type "tuple", .type "dict", false, rfl, .ty _, ty_tup hq, kit_ty (by decide +kernel), _, rfl, if_no rfl ?_⟩
          refine ⟨_, rfl, (by decide : 2 ≤ sizeLine), fun T nT => ?_⟩
          have s1 := same_upd (o := .tup [.ty "list", .ty "tuple"]) nT
          have hq1 := sqT_same s1 hq
          refine ⟨.ref a, T, _, .type "tuple", [.type "list", .type "tuple"], true, rfl, upd_same, .cons (.ty _) (.cons (.ty _) .nil), ty_tup hq1, kan (kit_ty (by decide +kernel)) (kay (kit_ty (by decide +kernel))), _, rfl, if_no rfl ?_⟩
          refine ⟨(by decide : 0 ≤ sizeLine), fun D nD => ?_⟩
          refine ⟨_, rfl, a, rfl, ⟨_, sqT_same (same_upd nD) hq1⟩, for_it (walk_tup (xs := xs)) (fun i σ H' => (∃ y, σ = [some (.ref a), none, none, some (.ref D), y]) ∧ OwB K (L2.upd H T (.tup [.ty "list", .ty "tuple"])) H' D (ds.take i)) ⟨⟨_, rfl⟩, OwB.new nD⟩ (fun i σ H' _ e => sqT_same e.2.base hq1) (fun i x σ H' H2 hi e hx => ?_) (fun σ H' e => ?_)⟩
          · obtain ⟨⟨y, rfl⟩, e⟩ := e
            obtain ⟨rfl, hx⟩ := hx
            obtain ⟨d, hdi, dx⟩ := dpAt' all hx
            obtain ⟨ys0, hy0⟩ := e.there
            refine ⟨_, rfl, .inl ⟨rfl, _, SqL.of hy0⟩, _, rfl, x, d, rfl, dp_same (s1.trans e.base) dx, h3 d (List.mem_of_getElem? hdi), fun H3 u S s3 hu nS => ?_⟩
            obtain ⟨ys, hy, ly, put⟩ := e.put s3
            refine ⟨D, ys, _, rfl, rfl, hy, by rw [ly, List.length_take, sizeLine_eq]; omega, ⟨_, rfl⟩, ?_⟩
            rw [take_snoc hdi]
            exact put u d S hu nS
          · obtain ⟨⟨y, rfl⟩, e⟩ := e
            rw [lx, List.take_length] at e
            refine ⟨_, rfl, .ref a, .ty "list", .type "tuple", .type "list", false, rfl, .ty _, ty_tup (sqT_same e.base hq1), kit_ty (by decide +kernel), _, rfl, if_no rfl ⟨_, rfl, ?_⟩⟩
            have base := e.base
            obtain ⟨n, s0, ys, S, hy, al, nS, nD⟩ := e
            refine ⟨D, ys, rfl, .inl ⟨SqL.of hy, fun l hl => ?_⟩⟩
            have s4 := same_upd (o := .tup ys) hl
            exact k _ _ S ((s1.trans base).trans s4) (.tup (SqT.of upd_same) (owAll_same s4 al)) fun b m => s1.free (nS b m)
end
end Qb
end PySem
namespace PySem
namespace Qb
open PySem.W PySem.Calls PyProof.Rows L2
section
variable {P : Program} {w : World} {K : Frag} {mg : Str → Option Value} {base : Heap}
abbrev sOw : Stmt := top 39
abbrev nOw : List Str := ["_law_thing", "_law_part"]
theorem scOw : FnScope nOw ["_law_thing"] (defScope sOw) := ⟨rfl, rfl, rfl, by decide +kernel, rfl, by decide +kernel, by decide +kernel⟩
theorem ok_Ow {f : Addr} {fd : FuncData} (F : Fun K "_law_own" "_law_own" sOw f fd) (g : mg "_law_own" = some (.ref f)) (b : Binds K fd ["_law_thing"] []) (B : Blt mg) : ∀ n, FnOk P w K mg base CX0 (n + 1) f fd ["_law_thing"] (spOw K n)
  | 0 => F.ok scOw (fun vs H Q E h => h.elim) (fun cdv A outer s H vs Q E hr h => h.elim)
  | n + 1 => by
    have GOw := ok_Ow F g b B n
    refine F.ok scOw (fun vs H Q E h => ?_) (fun cdv A outer s H vs Q E hr h => ?_)
    · obtain ⟨v, d, rfl, _⟩ := h
      rfl
    · refine ⟨_, (pss_cons (ps_if (pt_val (pe_callB call_isi (by rfl) B.isi (by decide +kernel) (pa_cons (pv 0) (pa_cons (pe_bltn (v := .ty "list") (by rfl) B.list (by decide +kernel) rfl) pa_nil)))) (pss_one (ps_ret (pe_lc (te := tCall (spOw K n) [] E0 (tCons (tVar 1) tNil)) (own := [("_law_part", 1)]) (g := gName 1) (tt := tYes) rfl scOw.nd (pi_list (pv 0)) (blkOk_by (N := nOw) (sc := defScope sOw) (by decide +kernel)) (fun _ _ _ _ _ => pg_name (i := 1) scOw.nd rfl (.inl rfl)) (fun _ _ _ _ _ => pts_nil) (fun _ _ _ _ _ => (pe_call GOw hr rfl g F.kp b .nil pass0 (pa_cons (pv 1) pa_nil)))))) pss_nil)
        (pss_cons (ps_if (pt_val (pe_callB call_isi (by rfl) B.isi (by decide +kernel) (pa_cons (pv 0) (pa_cons (pe_bltn (v := .ty "tuple") (by rfl) B.tuple (by decide +kernel) rfl) pa_nil)))) (pss_one (ps_ret (pe_callTy call_tuple_of (by rfl) B.tuple (by decide +kernel) (pa_cons (pe_lc (te := tCall (spOw K n) [] E0 (tCons (tVar 1) tNil)) (own := [("_law_part", 1)]) (g := gName 1) (tt := tYes) rfl scOw.nd (pi_tup (pv 0)) (blkOk_by (N := nOw) (sc := defScope sOw) (by decide +kernel)) (fun _ _ _ _ _ => pg_name (i := 1) scOw.nd rfl (.inl rfl)) (fun _ _ _ _ _ => pts_nil) (fun _ _ _ _ _ => (pe_call GOw hr rfl g F.kp b .nil pass0 (pa_cons (pv 1) pa_nil)))) pa_nil)))) pss_nil)
        (pss_one (ps_ret (pv 0))))), ?_⟩
      obtain ⟨v, d, rfl, hv, hp, k⟩ := h
      rcases pl_cases hp with h0 | ⟨m, ds, rfl, h1, h2, h3⟩
      · obtain ⟨hw, t, ht, hn⟩ := pl0_ty h0 hv
        obtain ⟨n1, n2, n3⟩ := flat_no (K := K) hn
        exact ⟨_, rfl, v, .ty "list", _, .type "list", false, rfl, .ty _, ht, n1, _, rfl, if_no rfl ⟨_, rfl, v, .ty "tuple", _, .type "tuple", false, rfl, .ty _, ht, n2, _, rfl, if_no rfl ⟨_, rfl, k _ _ [] (Same.refl _) hw fun b m => by cases m⟩⟩⟩
      · rcases h1 with rfl | rfl
        · obtain ⟨a, xs, rfl, hq, all⟩ := dp_lst hv
          have lx := dpLen all
          refine ⟨_, rfl, .ref a, .ty "list", .type "list", .type "list", true, rfl, .ty _, ty_lst hq, kit_ty (by decide +kernel), _, rfl, if_yes rfl ⟨_, rfl, a, rfl, ⟨_, hq⟩, fun D hD => ?_⟩⟩
          refine lc_it (walk_list (xs := xs)) (fun i H' => OwB K H H' D (ds.take i)) (OwB.new hD) (fun i H' _ e => e.base.seq hq) (fun i x H' H2 hi e y => ?_) (fun H' e => ?_)
          · obtain ⟨rfl, hx⟩ := y
            obtain ⟨d, hdi, dx⟩ := dpAt' all hx
            refine ⟨rfl, _, rfl, x, d, rfl, dp_same e.base dx, h3 d (List.mem_of_getElem? hdi), fun H3 u S s3 hu nS => ?_⟩
            obtain ⟨ys, hy, ly, put⟩ := e.put s3
            refine ⟨ys, hy, by rw [ly, List.length_take, sizeLine_eq]; omega, ?_⟩
            rw [take_snoc hdi]
            exact put u d S hu nS
          · rw [lx, List.take_length] at e
            have base := e.base
            obtain ⟨n, s0, ys, S, hy, al, nS, nD⟩ := e
            refine k _ _ (D :: S) base (.lst hy al nD) fun b m => ?_
            rcases List.mem_cons.mp m with rfl | m
            · exact n
            · exact nS b m
        · obtain ⟨a, xs, rfl, hq, all⟩ := dp_tup hv
          have lx := dpLen all
          refine ⟨_, rfl, .ref a, .ty "list", .type "tuple", .type "list", false, rfl, .ty _, ty_tup hq, kit_ty (by decide +kernel), _, rfl, if_no rfl ⟨_, rfl, .ref a, .ty "tuple", .type "tuple", .type "tuple", true, rfl, .ty _, ty_tup hq, kit_ty (by decide +kernel), _, rfl, if_yes rfl ⟨_, rfl, a, rfl, ⟨_, hq⟩, fun D hD => ?_⟩⟩⟩
          refine lc_it (walk_tup (xs := xs)) (fun i H' => OwB K H H' D (ds.take i)) (OwB.new hD) (fun i H' _ e => sqT_same e.base hq) (fun i x H' H2 hi e y => ?_) (fun H' e => ?_)
          · obtain ⟨rfl, hx⟩ := y
            obtain ⟨d, hdi, dx⟩ := dpAt' all hx
            refine ⟨rfl, _, rfl, x, d, rfl, dp_same e.base dx, h3 d (List.mem_of_getElem? hdi), fun H3 u S s3 hu nS => ?_⟩
            obtain ⟨ys, hy, ly, put⟩ := e.put s3
            refine ⟨ys, hy, by rw [ly, List.length_take, sizeLine_eq]; omega, ?_⟩
            rw [take_snoc hdi]
            exact put u d S hu nS
          · rw [lx, List.take_length] at e
            have base := e.base
            obtain ⟨n, s0, ys, S, hy, al, nS, nD⟩ := e
            refine ⟨D, ys, rfl, .inl ⟨SqL.of hy, fun l hl => ?_⟩⟩
            have s4 := same_upd (o := .tup ys) hl
            exact k _ _ S (base.trans s4) (.tup (SqT.of upd_same) (owAll_same s4 al)) nS
abbrev sSl : Stmt := top 46
abbrev nSl : List Str := ["_law_thing", "_law_part"]
theorem scSl : FnScope nSl ["_law_thing"] (defScope sSl) := ⟨rfl, rfl, rfl, by decide +kernel, rfl, by decide +kernel, by decide +kernel⟩
/-- where the parts ahead of the i-th are spoilt -/
def SlAt (K : Frag) (H H' : Hp) (xs : List V) (ds : List PyData) (S : List Addr) (i : Nat) : Prop :=
  ∃ S1 S2, But S1 H H' ∧ Lis S1 H' ∧ OwAll K H (xs.drop i) (ds.drop i) S2 ∧ (∀ b, b ∈ S ↔ b ∈ S1 ∨ b ∈ S2) ∧ (∀ b ∈ S1, b ∉ S2)
theorem SlAt.start {H : Hp} {xs : List V} {ds : List PyData} {S : List Addr} (h : OwAll K H xs ds S) : SlAt K H H xs ds S 0 :=
  ⟨[], S, But.refl _, (fun b m => by cases m), h, fun b => by simp, fun b m => by cases m⟩
theorem SlAt.next {H H' : Hp} {xs : List V} {ds : List PyData} {S : List Addr} {i : Nat} {x : V} {d : PyData} (lS : Lis S H) (h : SlAt K H H' xs ds S i) (hx : xs[i]? = some x) (hd : ds[i]? = some d) :
    ∃ T, Ow K H' x d T ∧ ∀ H2, But T H' H2 → Lis T H2 → SlAt K H H2 xs ds S (i + 1) := by
  obtain ⟨S1, S2, b1, l1, al, e, dj⟩ := h
  obtain ⟨h1, r1⟩ := List.getElem?_eq_some_iff.mp hx
  obtain ⟨h2, r2⟩ := List.getElem?_eq_some_iff.mp hd
  rw [List.drop_eq_getElem_cons h1, List.drop_eq_getElem_cons h2, r1, r2] at al
  cases al with
  | @cons _ _ _ _ T U hv ht n =>
    have sub : ∀ b ∈ S1, b ∉ T := fun b m z => dj b m (List.mem_append_left _ z)
    refine ⟨T, ow_frame (S := S1) b1 (fun b m => lS b ((e b).mpr (.inl m))) hv fun b m z => sub b z m, fun H2 b2 l2 => ⟨S1 ++ T, U, ?_, ?_, ht, fun b => ?_, fun b m z => ?_⟩⟩
    · intro b u q nm
      exact b2 b u (b1 b u q fun z => nm (List.mem_append_left _ z)) fun z => nm (List.mem_append_right _ z)
    · intro b m
      by_cases hT : b ∈ T
      · exact l2 b hT
      · rcases List.mem_append.mp m with m | m
        · obtain ⟨ys, q⟩ := l1 b m
          exact ⟨ys, b2 b _ q hT⟩
        · exact absurd m hT
    · rw [e, List.mem_append, List.mem_append, or_assoc]
    · rcases List.mem_append.mp m with m | m
      · exact dj b m (List.mem_append_right _ z)
      · exact n b m z
theorem SlAt.all {H H' : Hp} {xs : List V} {ds : List PyData} {S : List Addr} {i : Nat} (h : SlAt K H H' xs ds S i) (hi : xs.length ≤ i) : But S H H' ∧ Lis S H' := by
  obtain ⟨S1, S2, b1, l1, al, e, dj⟩ := h
  rw [List.drop_eq_nil_iff.mpr hi] at al
  have : S2 = [] := by
    generalize ds.drop i = dd at al
    cases al
    rfl
  subst this
  exact ⟨b1.more fun b m => (e b).mpr (.inl m), fun b m => l1 b (((e b).mp m).resolve_right fun z => by cases z)⟩
theorem ok_Sl {f : Addr} {fd : FuncData} (F : Fun K "_law_spoil" "_law_spoil" sSl f fd) (g : mg "_law_spoil" = some (.ref f)) (b : Binds K fd ["_law_thing"] []) (B : Blt mg) : ∀ n, FnOk P w K mg base CX0 (n + 1) f fd ["_law_thing"] (spSl K n)
  | 0 => F.ok scSl (fun vs H Q E h => h.elim) (fun cdv A outer s H vs Q E hr h => h.elim)
  | n + 1 => by
    have GSl := ok_Sl F g b B n
    refine F.ok scSl (fun vs H Q E h => ?_) (fun cdv A outer s H vs Q E hr h => ?_)
    · obtain ⟨v, d, S, rfl, _⟩ := h
      rfl
    · refine ⟨_, (pss_cons (ps_if (pt_val (pe_callB call_isiT (by rfl) B.isi (by decide +kernel) (pa_cons (pv 0) (pa_cons (pe_tup (pa_cons (pe_bltn (v := .ty "list") (by rfl) B.list (by decide +kernel) rfl) (pa_cons (pe_bltn (v := .ty "tuple") (by rfl) B.tuple (by decide +kernel) rfl) pa_nil))) pa_nil)))) (pss_one (ps_for PassesOwn.never rfl (pi_list (pe_callTy call_list_of (by rfl) B.list (by decide +kernel) (pa_cons (pv 0) pa_nil))) (pg_name (i := 1) scSl.nd rfl (.inl rfl))
            (pss_one (ps_expr (pe_call GSl hr rfl g F.kp b .nil pass0 (pa_cons (pv 1) pa_nil)))))) pss_nil)
        (pss_one (ps_if (pt_val (pe_callB call_isi (by rfl) B.isi (by decide +kernel) (pa_cons (pv 0) (pa_cons (pe_bltn (v := .ty "list") (by rfl) B.list (by decide +kernel) rfl) pa_nil)))) (pss_one (ps_expr (pe_bm PySem.F.plainAttrs_list PySem.F.slot_list_append PySem.F.type_list_append mt_append (pv 0) (pa_cons (pe_tup (pa_cons pe_str pa_nil)) pa_nil)))) pss_nil))), ?_⟩
      obtain ⟨v, d, S, rfl, hv, hp, k⟩ := h
      rcases pl_cases hp with h0 | ⟨m, ds, rfl, h1, h2, h3⟩
      · obtain ⟨hw, t, ht, hn⟩ := pl0_ty h0 (ow_dp hv)
        obtain ⟨n1, n2, n3⟩ := flat_no (K := K) hn
        have eS : S = [] := by
          rcases h0 with ⟨x, rfl⟩ | ⟨x, rfl⟩ | ⟨x, rfl⟩ | rfl <;> cases hv <;> rfl
        subst eS
        refine ⟨_, rfl, (by decide : 2 ≤ sizeLine), fun T nT => ?_⟩
        have s1 := same_upd (o := .tup [.ty "list", .ty "tuple"]) nT
        have ht1 : TyX K (L2.upd H T (.tup [.ty "list", .ty "tuple"])) v (.type t) := by
          have z := pl0_ty h0 (dp_same s1 (ow_dp hv))
          obtain ⟨_, t', h', _⟩ := z
          rcases h0 with ⟨x, rfl⟩ | ⟨x, rfl⟩ | ⟨x, rfl⟩ | rfl <;> cases hv <;> cases ht <;> rename_i z <;> cases z <;> constructor <;> constructor
        exact ⟨v, T, _, _, [.type "list", .type "tuple"], false, rfl, upd_same, .cons (.ty _) (.cons (.ty _) .nil), ht1, kan n1 (kan n2 kitAny_nil), _, rfl, if_no rfl ⟨_, rfl, v, .ty "list", _, .type "list", false, rfl, .ty _, ht1, n1, _, rfl, if_no rfl (k _ (But.of s1 _) fun b m => by cases m)⟩⟩
      · rcases h1 with rfl | rfl
        · cases hv with
          | @lst a xs _ S hq all na =>
          have lS := owAll_lis all
          have lx := dpLen (owAll_dp all)
          refine ⟨_, rfl, (by decide : 2 ≤ sizeLine), fun T nT => ?_⟩
          have s1 := same_upd (o := .tup [.ty "list", .ty "tuple"]) nT
          refine ⟨.ref a, T, _, .type "list", [.type "list", .type "tuple"], true, rfl, upd_same, .cons (.ty _) (.cons (.ty _) .nil), ty_lst (SqL.of (s1 _ _ hq)), kay (kit_ty (by decide +kernel)), _, rfl, if_yes rfl ?_⟩
          refine ⟨_, rfl, a, xs, rfl, .inl (SqL.of (s1 _ _ hq)), fun L nL => ?_⟩
          have s2 := s1.trans (same_upd (o := .lst xs) nL)
          have all2 := owAll_same s2 all
          have lS2 := owAll_lis all2
          have nLS : L ∉ S := fun z => by
            obtain ⟨ys, q⟩ := owAll_lis (owAll_same s1 all) L z
            rw [nL] at q
            cases q
          refine ⟨L, rfl, ⟨_, SqL.of upd_same⟩, for_list (xs := xs) (fun i σ H' => (∃ y, σ = [some (.ref a), y]) ∧ SlAt K (L2.upd (L2.upd H T (.tup [.ty "list", .ty "tuple"])) L (.lst xs)) H' xs ds S i) ⟨⟨_, rfl⟩, SlAt.start all2⟩ (fun i σ H' _ e => ?_) (fun i x σ H' hx e => ?_) (fun σ H' e => ?_)⟩
          · obtain ⟨_, S1, S2, b1, _, _, eS, _⟩ := e
            exact SqL.of (b1 L _ upd_same fun z => nLS ((eS L).mpr (.inl z)))
          · obtain ⟨⟨y, rfl⟩, e⟩ := e
            obtain ⟨d, hdi, _⟩ := dpAt' (owAll_dp all) hx
            obtain ⟨U, hu, nx⟩ := e.next lS2 hx hdi
            exact ⟨_, rfl, x, d, U, rfl, hu, h3 d (List.mem_of_getElem? hdi), fun H2 b2 l2 => ⟨⟨_, rfl⟩, nx H2 b2 l2⟩⟩
          · obtain ⟨⟨y, rfl⟩, e⟩ := e
            obtain ⟨b3, l3⟩ := e.all (Nat.le_refl _)
            have ha : H' a = some (.lst xs) := b3 a _ (s2 _ _ hq) na
            refine ⟨_, rfl, .ref a, .ty "list", .type "list", .type "list", true, rfl, .ty _, ty_lst (SqL.of ha), kit_ty (by decide +kernel), _, rfl, if_yes rfl ?_⟩
            refine ⟨_, rfl, .inl ⟨rfl, _, SqL.of ha⟩, (by decide : 1 ≤ sizeLine), fun T2 nT2 => ?_⟩
            have s4 := same_upd (o := .tup [.str "any"]) nT2
            refine ⟨a, xs, _, rfl, rfl, s4 _ _ ha, by rw [lx, sizeLine_eq]; omega, k _ ?_ ?_⟩
            · intro b u q nm
              have ne : b ≠ a := fun z => nm (by rw [z]; exact .head _)
              rw [upd_ne ne]
              exact s4 _ _ (b3 b u (s2 _ _ q) fun z => nm (.tail _ z))
            · intro b m
              by_cases e : b = a
              · rw [e]
                exact ⟨_, upd_same⟩
              · rcases List.mem_cons.mp m with z | m
                · exact absurd z e
                · obtain ⟨ys, q⟩ := l3 b m
                  exact ⟨ys, by rw [upd_ne e]; exact s4 _ _ q⟩
        · cases hv with
          | @tup a xs _ S hq all =>
          have lx := dpLen (owAll_dp all)
          refine ⟨_, rfl, (by decide : 2 ≤ sizeLine), fun T nT => ?_⟩
          have s1 := same_upd (o := .tup [.ty "list", .ty "tuple"]) nT
          refine ⟨.ref a, T, _, .type "tuple", [.type "list", .type "tuple"], true, rfl, upd_same, .cons (.ty _) (.cons (.ty _) .nil), ty_tup (sqT_same s1 hq), kan (kit_ty (by decide +kernel)) (kay (kit_ty (by decide +kernel))), _, rfl, if_yes rfl ?_⟩
          refine ⟨_, rfl, a, xs, rfl, .inr (sqT_same s1 hq), fun L nL => ?_⟩
          have s2 := s1.trans (same_upd (o := .lst xs) nL)
          have all2 := owAll_same s2 all
          have lS2 := owAll_lis all2
          have nLS : L ∉ S := fun z => by
            obtain ⟨ys, q⟩ := owAll_lis (owAll_same s1 all) L z
            rw [nL] at q
            cases q
          refine ⟨L, rfl, ⟨_, SqL.of upd_same⟩, for_list (xs := xs) (fun i σ H' => (∃ y, σ = [some (.ref a), y]) ∧ SlAt K (L2.upd (L2.upd H T (.tup [.ty "list", .ty "tuple"])) L (.lst xs)) H' xs ds S i) ⟨⟨_, rfl⟩, SlAt.start all2⟩ (fun i σ H' _ e => ?_) (fun i x σ H' hx e => ?_) (fun σ H' e => ?_)⟩
          · obtain ⟨_, S1, S2, b1, _, _, eS, _⟩ := e
            exact SqL.of (b1 L _ upd_same fun z => nLS ((eS L).mpr (.inl z)))
          · obtain ⟨⟨y, rfl⟩, e⟩ := e
            obtain ⟨d, hdi, _⟩ := dpAt' (owAll_dp all) hx
            obtain ⟨U, hu, nx⟩ := e.next lS2 hx hdi
            exact ⟨_, rfl, x, d, U, rfl, hu, h3 d (List.mem_of_getElem? hdi), fun H2 b2 l2 => ⟨⟨_, rfl⟩, nx H2 b2 l2⟩⟩
          · obtain ⟨⟨y, rfl⟩, e⟩ := e
            obtain ⟨b3, l3⟩ := e.all (Nat.le_refl _)
            refine ⟨_, rfl, .ref a, .ty "list", .type "tuple", .type "list", false, rfl, .ty _, ty_tup (sqT_but b3 lS2 (sqT_same s2 hq)), kit_ty (by decide +kernel), _, rfl, if_no rfl (k _ ?_ l3)⟩
            exact fun b u q nm => b3 b u (s2 _ _ q) nm
end
end Qb
end PySem
namespace PySem
namespace Qb
open PySem.W PySem.Calls PyProof.Rows L2
/-- what a refusal leaves: an error of the class at C with an own copy of the pattern -/
def Rz (K : Frag) (C : Addr) (d : PyData) (H : Hp) (E : XK) : Prop := ∀ (H' : Hp) (dx : Addr) (u : V) (S : List Addr), Same H H' → H' dx = some (.xd [(("value" : Str), u)]) → Ow K H' u d S → (∀ b ∈ S, H b = none) → E (.ref C) (some dx) H'
theorem Rz.same {K : Frag} {C : Addr} {d : PyData} {H H1 : Hp} {E : XK} (h : Rz K C d H E) (s : Same H H1) : Rz K C d H1 E := fun H' dx u S s1 hx hu nS => h H' dx u S (s.trans s1) hx hu fun b m => s.free (nS b m)
/-- the first one that is no pattern -/
def FB (pss : List (List Pd)) (ps : List Pd) : Prop := ∃ i, pss[i]? = some ps ∧ okPs ps = false ∧ ∀ j : Nat, j < i → ∀ qs, pss[j]? = some qs → okPs qs = true
def fineAll (pss : List (List Pd)) : Prop := pss.length ≤ 100 ∧ ∀ ps ∈ pss, finePs ps
def spCp (K : Frag) (C : Addr) : Sp := fun vs H _ E => ∃ (v : V) (pss : List (List Pd)), vs = [v] ∧ Dp K H v (.list (pss.map patD)) ∧ fineAll pss ∧ ∃ ps, FB pss ps ∧ Rz K C (patD ps) H E
def spD1 (K : Frag) (C : Addr) : Sp := fun vs H _ E => ∃ (v : V) (ps : List Pd), vs = [v] ∧ Dp K H v (patD ps) ∧ finePs ps ∧ okPs ps = false ∧ Rz K C (patD ps) H E
def spD2 (K : Frag) (C : Addr) : Sp := fun vs H _ E => ∃ (v : V) (x : Str) (ps : List Pd), vs = [v, .str x] ∧ Dp K H v (patD ps) ∧ finePs ps ∧ okPs ps = false ∧ Rz K C (patD ps) H E
def spDD (K : Frag) (C : Addr) : Sp := fun vs H _ E => ∃ (v u : V) (ps qs : List Pd), vs = [v, u] ∧ Dp K H v (patD ps) ∧ Dp K H u (patD qs) ∧ finePs ps ∧ finePs qs ∧ ∃ bad, FB [ps, qs] bad ∧ Rz K C (patD bad) H E
def armsD (arms : List (List (List Pd))) : PyData := .list (arms.map fun pss => .list (pss.map patD))
def spDA (K : Frag) (C : Addr) : Sp := fun vs H _ E => ∃ (v : V) (arms : List (List (List Pd))), vs = [v] ∧ Dp K H v (armsD arms) ∧ fineAll arms.flatten ∧ arms.length ≤ 100 ∧ ∃ bad, FB arms.flatten bad ∧ Rz K C (patD bad) H E
theorem fb_one {ps : List Pd} (h : okPs ps = false) : FB [ps] ps := ⟨0, rfl, h, fun j hj => by omega⟩
theorem pl_tx {xs : List Str} (h : xs.length ≤ 1000) : Pl 1 (txD xs) := .inr ⟨_, .inr rfl, by rw [List.length_map]; exact h, fun e m => by
  obtain ⟨x, mx, rfl⟩ := List.mem_map.mp m
  exact .inl ⟨x, rfl⟩⟩
theorem pl_rr {rs : List (List Str)} (h : fineR rs) : Pl 2 (rrD rs) := .inr ⟨_, .inl rfl, by rw [List.length_map]; have := h.1; omega, fun e m => by
  obtain ⟨r, mr, rfl⟩ := List.mem_map.mp m
  exact pl_tx (Nat.le_trans (h.2 r mr).1 (by decide))⟩
theorem pl_up {n : Nat} {d : PyData} : ∀ {m : Nat}, Pl n d → n ≤ m → Pl m d := by
  induction n generalizing d with
  | zero =>
    intro m h _
    cases m with
    | zero => exact h
    | succ m => exact .inl h
  | succ n ih =>
    intro m h l
    cases m with
    | zero => omega
    | succ m =>
      rcases h with h | ⟨ds, h1, h2, h3⟩
      · exact .inl h
      · exact .inr ⟨ds, h1, h2, fun e me => ih (h3 e me) (by omega)⟩
theorem pl_s (n : Nat) (x : Str) : Pl n (.str x) := pl_up (n := 0) (.inl ⟨x, rfl⟩) (Nat.zero_le _)
theorem pl_b (n : Nat) (x : Bool) : Pl n (.bool x) := pl_up (n := 0) (.inr (.inl ⟨x, rfl⟩)) (Nat.zero_le _)
theorem pl_pd {p : Pd} (h : p.fine) : Pl 3 p.d := by
  cases p with
  | txt xs => exact pl_up (pl_tx (Nat.le_trans h.1 (by decide))) (by decide)
  | of no rs =>
    refine .inr ⟨_, .inr rfl, (by decide : 3 ≤ 1000), fun e m => ?_⟩
    rcases List.mem_cons.mp m with rfl | m
    · exact pl_s _ _
    rcases List.mem_cons.mp m with rfl | m
    · exact pl_b _ _
    rcases List.mem_singleton.mp m with rfl
    exact pl_rr h
  | ofs no =>
    refine .inr ⟨_, .inr rfl, (by decide : 2 ≤ 1000), fun e m => ?_⟩
    rcases List.mem_cons.mp m with rfl | m
    · exact pl_s _ _
    rcases List.mem_singleton.mp m with rfl
    exact pl_b _ _
  | ofm no rs c =>
    refine .inr ⟨_, .inr rfl, (by decide : 4 ≤ 1000), fun e m => ?_⟩
    rcases List.mem_cons.mp m with rfl | m
    · exact pl_s _ _
    rcases List.mem_cons.mp m with rfl | m
    · exact pl_b _ _
    rcases List.mem_cons.mp m with rfl | m
    · exact pl_rr h.1
    rcases List.mem_singleton.mp m with rfl
    exact pl_s _ _
theorem pl_pat {ps : List Pd} (h : finePs ps) : Pl 4 (patD ps) := .inr ⟨_, .inl rfl, by rw [List.length_map]; have := h.1; omega, fun e m => by
  obtain ⟨p, mp, rfl⟩ := List.mem_map.mp m
  exact pl_pd (h.2 p mp)⟩
section
variable {P : Program} {w : World} {K : Frag} {mg : Str → Option Value} {base : Heap}
abbrev sCp : Stmt := top 20
abbrev nCp : List Str := ["patterns", "pattern"]
theorem scCp : FnScope nCp ["patterns"] (defScope sCp) := ⟨rfl, rfl, rfl, by decide +kernel, rfl, by decide +kernel, by decide +kernel⟩
theorem has_Cp {f : Addr} {fd : FuncData} {fI : Addr} (EGi : EG K fI) {CP : Addr} {mP : List Value} (TP : EC K mg fI "InvalidPattern" CP mP) {dI : FuncData} (GIn : FnOk P w K mg base CX0 1 fI dI ["self", "value"] (spInit K)) (bIn : Binds K dI ["self", "value"] []) (F : Fun K "check_patterns" "check_patterns" sCp f fd) (g : mg "check_patterns" = some (.ref f)) (B : Blt mg) (hPa : Has P w K mg base 4 "is_pattern" ["pattern"] (spPa K)) (hFr : Has P w K mg base 6 "fresh" ["thing"] (spOw K 5)) :
    HasX P w K mg base 9 "check_patterns" ["patterns"] (spCp K CP) := by
  obtain ⟨fPa, dPa, gPa, kPa, bPa, GPa⟩ := hPa
  obtain ⟨fFr, dFr, gFr, kFr, bFr, GFr⟩ := hFr
  refine hasX_of F g (F.binds (ps := ["patterns"]) fun _ _ _ _ _ _ us hl => match us, hl with | [_], _ => rfl) (F.okX scCp (fun vs H Q E h => ?_) (fun cdv A outer s H vs Q E hr h => ?_))
  · obtain ⟨v, ps, rfl, _⟩ := h
    rfl
  · refine ⟨_, (pss_one (ps_for (passes_of rfl) rfl (pi_list (pv 0)) (pg_name (i := 1) scCp.nd rfl (.inl rfl))
          (pss_one (ps_if (pt_not (pt_val (pe_call GPa (hr.mono (by decide)) rfl gPa kPa bPa .nil pass0 (pa_cons (pv 1) pa_nil)))) (pss_one (ps_raise rfl (takes_of rfl rfl rfl rfl) (pmk_oex TP.oex TP.iC EGi.tI GIn (hr.mono (by decide)) bIn .nil pass0 (by rfl) TP.gC (by exact (pa_cons (pe_call GFr (hr.mono (by decide)) rfl gFr kFr bFr .nil pass0 (pa_cons (pv 1) pa_nil)) pa_nil))))) pss_nil)))), ?_⟩
    obtain ⟨v, pss, rfl, hd, hf, ps, ⟨k, hk, hbad, hgood⟩, rz⟩ := h
    obtain ⟨a, xs, rfl, hq, all⟩ := dp_lst hd
    have lx := dpLen all
    rw [List.length_map] at lx
    have lk : k < pss.length := (List.getElem?_eq_some_iff.mp hk).1
    refine ⟨_, rfl, a, rfl, ⟨_, hq⟩, for_list (xs := xs) (fun i σ H' => i ≤ k ∧ Same H H' ∧ ∃ y, σ = [some (.ref a), y]) ⟨Nat.zero_le _, Same.refl H, _, rfl⟩ (fun i σ H' _ e => e.2.1.seq hq) (fun i x σ H' hx e => ?_) (fun σ H' e => ?_)⟩
    · obtain ⟨ik, s1, y, rfl⟩ := e
      obtain ⟨d, hdi, dp⟩ := dpAt' all hx
      rw [List.getElem?_map] at hdi
      cases ep : pss[i]? with
      | none => rw [ep] at hdi; cases hdi
      | some qs =>
        rw [ep] at hdi
        obtain rfl := Option.some.inj hdi
        have fq := hf.2 qs (List.mem_of_getElem? ep)
        refine ⟨_, rfl, x, qs, rfl, dp_same s1 dp, fq, fun H2 s2 => ⟨_, rfl, ?_⟩⟩
        by_cases e : i = k
        · subst e
          rw [hk] at ep
          obtain rfl := Option.some.inj ep
          rw [hbad]
          refine if_yes rfl ⟨_, rfl, x, _, rfl, dp_same (s1.trans s2) dp, pl_pat fq, fun H3 u S s3 hu nS => init_end TP.oex TP.no fun dx nd => ?_⟩
          have s4 := same_upd (o := .xd [(("value" : Str), u)]) nd
          exact rz _ dx u S (((s1.trans s2).trans s3).trans s4) upd_same (ow_same s4 hu) fun b m => (s1.trans s2).free (nS b m)
        · rw [hgood i (by omega) qs ep]
          exact if_no rfl ⟨by omega, s1.trans s2, _, rfl⟩
    · obtain ⟨ik, _⟩ := e
      omega
end
end Qb
end PySem
namespace PySem
namespace Qb
open PySem.W PySem.Calls PyProof.Rows L2
theorem flat_take {α : Type} {xss : List (List α)} {i : Nat} {xs : List α} (h : xss[i]? = some xs) : (xss.take (i + 1)).flatten = (xss.take i).flatten ++ xs := by
  rw [take_snoc h, List.flatten_append]
  simp
theorem flat_len {α : Type} : ∀ (xss : List (List α)) (i : Nat), (xss.take i).flatten.length ≤ xss.flatten.length
  | [], i => by simp
  | xs :: xss, 0 => by simp
  | xs :: xss, i + 1 => by
    have := flat_len xss i
    rw [List.take_succ_cons, List.flatten_cons, List.flatten_cons, List.length_append, List.length_append]
    omega
/-- [x for ys in .. for x in ys], the two names at the slots 2 and 3 -/
theorem lc2_flat {K : Frag} {σ r : L2.St} {H : Hp} {Q : VK} {a : Addr} {as : List V} {xss : List (List V)} (hσ : σ = some (.ref a) :: none :: none :: none :: r) (hq : SqL K H a as) (hl : xss.length = as.length)
    (hin : ∀ (i : Nat) (x : V) (xs : List V), as[i]? = some x → xss[i]? = some xs → ∃ c, x = .ref c ∧ SqL K H c xs) (few : xss.flatten.length ≤ 1000)
    (k : ∀ H' D, Same H H' → H' D = some (.lst xss.flatten) → Q (.ref D) H') : tLc2 (iList K (tVar 0)) (gName 2) tYes (iList K (tVar 2)) (gName 3) tYes (tVar 3) [2, 3] [3] σ H Q := by
  subst hσ
  refine ⟨_, rfl, a, rfl, ⟨_, hq⟩, fun D nD => ?_⟩
  refine ⟨fun i m H' => m = as.length - i ∧ i ≤ as.length ∧ Same H H' ∧ H' D = some (.lst (xss.take i).flatten), ⟨_, rfl, Nat.zero_le _, same_upd nD, upd_same⟩, fun i m H' e => ?_⟩
  obtain ⟨rfl, il, s1, hD⟩ := e
  have w1 := walk_list (K := K) (a := a) (xs := as)
  by_cases hi : i < as.length
  · refine .inr ⟨w1.goes i H' hi (s1.seq hq), fun H2 => i + 1 ≤ as.length ∧ Same H H2 ∧ H2 D = some (.lst (xss.take (i + 1)).flatten), fun H2 e => ⟨as.length - (i + 1), by omega, rfl, e⟩, fun x H2 y => ?_⟩
    obtain ⟨rfl, hx⟩ := w1.yields i H' x H2 hi (s1.seq hq) y
    obtain ⟨xs, hxs⟩ : ∃ xs, xss[i]? = some xs := ⟨_, List.getElem?_eq_getElem (by omega)⟩
    obtain ⟨c, rfl, hc⟩ := hin i x xs hx hxs
    have w2 := walk_list (K := K) (a := c) (xs := xs)
    refine ⟨rfl, ?_⟩
    unfold tYes
    simp only [↓reduceIte]
    refine ⟨_, rfl, c, rfl, ⟨_, s1.seq hc⟩, ?_⟩
    refine ⟨fun j m H3 => m = xs.length - j ∧ j ≤ xs.length ∧ Same H H3 ∧ H3 D = some (.lst ((xss.take i).flatten ++ xs.take j)), ⟨_, rfl, Nat.zero_le _, s1, by rw [List.take_zero, List.append_nil]; exact hD⟩, fun j m H3 e => ?_⟩
    obtain ⟨rfl, jl, s3, hD3⟩ := e
    by_cases hj : j < xs.length
    · refine .inr ⟨w2.goes j H3 hj (s3.seq hc), fun H4 => j + 1 ≤ xs.length ∧ Same H H4 ∧ H4 D = some (.lst ((xss.take i).flatten ++ xs.take (j + 1))), fun H4 e => ⟨xs.length - (j + 1), by omega, rfl, e⟩, fun x H4 y => ?_⟩
      obtain ⟨rfl, hx4⟩ := w2.yields j H3 x H4 hj (s3.seq hc) y
      have lz : ((xss.take i).flatten ++ xs.take j).length < sizeLine := by
        have h1 := flat_len xss (i + 1)
        rw [flat_take hxs, List.length_append] at h1
        rw [List.length_append, List.length_take, sizeLine_eq]
        omega
      refine ⟨rfl, ?_⟩
      simp only [↓reduceIte]
      refine ⟨_, rfl, _, hD3, lz, hj, same_upd2 s3 nD, ?_⟩
      rw [upd_same, take_snoc hx4, List.append_assoc]
    · have e : j = xs.length := by omega
      subst e
      refine .inl ⟨w2.stops H3 (s3.seq hc), hi, s3, ?_⟩
      rw [flat_take hxs]
      rw [List.take_length] at hD3
      exact hD3
  · have e : i = as.length := by omega
    subst e
    refine .inl ⟨w1.stops H' (s1.seq hq), k H' D s1 ?_⟩
    rw [← hl, List.take_length] at hD
    exact hD
theorem dpAll_flat {K : Frag} {H : Hp} : ∀ {xss : List (List V)} {dss : List (List PyData)}, Paired (DpAll K H) xss dss → DpAll K H xss.flatten dss.flatten
  | [], _, .nil => .nil
  | xs :: xss, _, .cons h t => by
    rw [List.flatten_cons, List.flatten_cons]
    exact dpApp h (dpAll_flat t)
/-- the lists within a list -/
theorem dp_lists {K : Frag} {H : Hp} : ∀ {as : List V} {dss : List (List PyData)}, DpAll K H as (dss.map fun ds => .list ds) → ∃ xss : List (List V), xss.length = as.length ∧ (∀ (i : Nat) (x : V) (xs : List V), as[i]? = some x → xss[i]? = some xs → ∃ c, x = .ref c ∧ SqL K H c xs) ∧ Paired (DpAll K H) xss dss
  | _, [], .nil => ⟨[], rfl, (fun i x xs h => by simp at h), .nil⟩
  | _, ds :: dss, .cons h t => by
    obtain ⟨c, xs, rfl, hq, al⟩ := dp_lst h
    obtain ⟨xss, h1, h2, h3⟩ := dp_lists t
    refine ⟨xs :: xss, congrArg Nat.succ h1, fun i x ys hx hy => ?_, .cons al h3⟩
    cases i with
    | zero =>
      obtain rfl := Option.some.inj hx
      obtain rfl := Option.some.inj hy
      exact ⟨c, rfl, hq⟩
    | succ i => exact h2 i x ys hx hy
section
variable {P : Program} {w : World} {K : Frag} {mg : Str → Option Value} {base : Heap} {CP : Addr}
theorem one_list {H : Hp} {v : V} {ps : List Pd} {L : Addr} (nL : H L = none) (hd : Dp K H v (patD ps)) : Dp K (L2.upd H L (.lst [v])) (.ref L) (.list ([ps].map patD)) := .lst (SqL.of upd_same) (.cons (dp_same (same_upd nL) hd) .nil)
theorem two_list {H : Hp} {v u : V} {ps qs : List Pd} {L : Addr} (nL : H L = none) (hd : Dp K H v (patD ps)) (he : Dp K H u (patD qs)) : Dp K (L2.upd H L (.lst [v, u])) (.ref L) (.list ([ps, qs].map patD)) := .lst (SqL.of upd_same) (.cons (dp_same (same_upd nL) hd) (.cons (dp_same (same_upd nL) he) .nil))
theorem fine_one {ps : List Pd} (h : finePs ps) : fineAll [ps] := ⟨by show 1 ≤ 100; decide, fun q m => by rcases List.mem_singleton.mp m with rfl; exact h⟩
theorem fine_two {ps qs : List Pd} (h : finePs ps) (h' : finePs qs) : fineAll [ps, qs] := ⟨by show 2 ≤ 100; decide, fun q m => by
  rcases List.mem_cons.mp m with rfl | m
  · exact h
  · rcases List.mem_singleton.mp m with rfl
    exact h'⟩
abbrev sMe : Stmt := top 21
abbrev nMe : List Str := ["pattern", "text"]
theorem scMe : FnScope nMe ["pattern", "text"] (defScope sMe) := ⟨rfl, rfl, rfl, by decide +kernel, rfl, by decide +kernel, by decide +kernel⟩
theorem has_Me {f : Addr} {fd : FuncData} (F : Fun K "meets" "meets" sMe f fd) (g : mg "meets" = some (.ref f)) (B : Blt mg) (hCp : HasX P w K mg base 9 "check_patterns" ["patterns"] (spCp K CP)) :
    HasX P w K mg base 10 "meets" ["pattern", "text"] (spD2 K CP) := by
  obtain ⟨fCp, dCp, gCp, kCp, bCp, GCp⟩ := hCp
  refine hasX_of F g (F.binds (ps := ["pattern", "text"]) fun _ _ _ _ _ _ us hl => match us, hl with | [_, _], _ => rfl) (F.okX scMe (fun vs H Q E h => ?_) (fun cdv A outer s H vs Q E hr h => ?_))
  · obtain ⟨v, x, ps, rfl, _⟩ := h
    rfl
  · refine ⟨_, (pss_cons (ps_expr (pe_callS GCp hr rfl gCp kCp bCp (fun σ => passAt (takes_of rfl rfl rfl rfl) σ) (by exact (pa_cons (pe_lst (pa_cons (pv 0) pa_nil)) pa_nil)))) pss_never), ?_⟩
    obtain ⟨v, x, ps, rfl, hd, hf, hbad, rz⟩ := h
    exact ⟨_, rfl, (by decide : 1 ≤ sizeLine), fun L nL => ⟨_, [ps], rfl, one_list nL hd, fine_one hf, ps, fb_one hbad, rz.same (same_upd nL)⟩⟩
abbrev sHe : Stmt := top 22
abbrev nHe : List Str := ["pattern", "text"]
theorem scHe : FnScope nHe ["pattern", "text"] (defScope sHe) := ⟨rfl, rfl, rfl, by decide +kernel, rfl, by decide +kernel, by decide +kernel⟩
theorem has_He {f : Addr} {fd : FuncData} (F : Fun K "heads" "heads" sHe f fd) (g : mg "heads" = some (.ref f)) (B : Blt mg) (hCp : HasX P w K mg base 9 "check_patterns" ["patterns"] (spCp K CP)) :
    HasX P w K mg base 10 "heads" ["pattern", "text"] (spD2 K CP) := by
  obtain ⟨fCp, dCp, gCp, kCp, bCp, GCp⟩ := hCp
  refine hasX_of F g (F.binds (ps := ["pattern", "text"]) fun _ _ _ _ _ _ us hl => match us, hl with | [_, _], _ => rfl) (F.okX scHe (fun vs H Q E h => ?_) (fun cdv A outer s H vs Q E hr h => ?_))
  · obtain ⟨v, x, ps, rfl, _⟩ := h
    rfl
  · refine ⟨_, (pss_cons (ps_expr (pe_callS GCp hr rfl gCp kCp bCp (fun σ => passAt (takes_of rfl rfl rfl rfl) σ) (by exact (pa_cons (pe_lst (pa_cons (pv 0) pa_nil)) pa_nil)))) pss_never), ?_⟩
    obtain ⟨v, x, ps, rfl, hd, hf, hbad, rz⟩ := h
    exact ⟨_, rfl, (by decide : 1 ≤ sizeLine), fun L nL => ⟨_, [ps], rfl, one_list nL hd, fine_one hf, ps, fb_one hbad, rz.same (same_upd nL)⟩⟩
abbrev sTa : Stmt := top 23
abbrev nTa : List Str := ["pattern", "text"]
theorem scTa : FnScope nTa ["pattern", "text"] (defScope sTa) := ⟨rfl, rfl, rfl, by decide +kernel, rfl, by decide +kernel, by decide +kernel⟩
theorem has_Ta {f : Addr} {fd : FuncData} (F : Fun K "tails" "tails" sTa f fd) (g : mg "tails" = some (.ref f)) (B : Blt mg) (hCp : HasX P w K mg base 9 "check_patterns" ["patterns"] (spCp K CP)) :
    HasX P w K mg base 10 "tails" ["pattern", "text"] (spD2 K CP) := by
  obtain ⟨fCp, dCp, gCp, kCp, bCp, GCp⟩ := hCp
  refine hasX_of F g (F.binds (ps := ["pattern", "text"]) fun _ _ _ _ _ _ us hl => match us, hl with | [_, _], _ => rfl) (F.okX scTa (fun vs H Q E h => ?_) (fun cdv A outer s H vs Q E hr h => ?_))
  · obtain ⟨v, x, ps, rfl, _⟩ := h
    rfl
  · refine ⟨_, (pss_cons (ps_expr (pe_callS GCp hr rfl gCp kCp bCp (fun σ => passAt (takes_of rfl rfl rfl rfl) σ) (by exact (pa_cons (pe_lst (pa_cons (pv 0) pa_nil)) pa_nil)))) pss_never), ?_⟩
    obtain ⟨v, x, ps, rfl, hd, hf, hbad, rz⟩ := h
    exact ⟨_, rfl, (by decide : 1 ≤ sizeLine), fun L nL => ⟨_, [ps], rfl, one_list nL hd, fine_one hf, ps, fb_one hbad, rz.same (same_upd nL)⟩⟩
abbrev sLt : Stmt := top 25
abbrev nLt : List Str := ["pattern", "sets", "piece", "signs"]
theorem scLt : FnScope nLt ["pattern"] (defScope sLt) := ⟨rfl, rfl, rfl, by decide +kernel, rfl, by decide +kernel, by decide +kernel⟩
theorem has_Lt {f : Addr} {fd : FuncData} (F : Fun K "least_text" "least_text" sLt f fd) (g : mg "least_text" = some (.ref f)) (B : Blt mg) (hCp : HasX P w K mg base 9 "check_patterns" ["patterns"] (spCp K CP)) :
    HasX P w K mg base 10 "least_text" ["pattern"] (spD1 K CP) := by
  obtain ⟨fCp, dCp, gCp, kCp, bCp, GCp⟩ := hCp
  refine hasX_of F g (F.binds (ps := ["pattern"]) fun _ _ _ _ _ _ us hl => match us, hl with | [_], _ => rfl) (F.okX scLt (fun vs H Q E h => ?_) (fun cdv A outer s H vs Q E hr h => ?_))
  · obtain ⟨v, ps, rfl, _⟩ := h
    rfl
  · refine ⟨_, (pss_cons (ps_expr (pe_callS GCp hr rfl gCp kCp bCp (fun σ => passAt (takes_of rfl rfl rfl rfl) σ) (by exact (pa_cons (pe_lst (pa_cons (pv 0) pa_nil)) pa_nil)))) pss_never), ?_⟩
    obtain ⟨v, ps, rfl, hd, hf, hbad, rz⟩ := h
    exact ⟨_, rfl, (by decide : 1 ≤ sizeLine), fun L nL => ⟨_, [ps], rfl, one_list nL hd, fine_one hf, ps, fb_one hbad, rz.same (same_upd nL)⟩⟩
abbrev sSh : Stmt := top 33
abbrev nSh : List Str := ["pattern", "piece"]
theorem scSh : FnScope nSh ["pattern"] (defScope sSh) := ⟨rfl, rfl, rfl, by decide +kernel, rfl, by decide +kernel, by decide +kernel⟩
theorem has_Sh {f : Addr} {fd : FuncData} (F : Fun K "shown_least" "shown_least" sSh f fd) (g : mg "shown_least" = some (.ref f)) (B : Blt mg) (hCp : HasX P w K mg base 9 "check_patterns" ["patterns"] (spCp K CP)) :
    HasX P w K mg base 10 "shown_least" ["pattern"] (spD1 K CP) := by
  obtain ⟨fCp, dCp, gCp, kCp, bCp, GCp⟩ := hCp
  refine hasX_of F g (F.binds (ps := ["pattern"]) fun _ _ _ _ _ _ us hl => match us, hl with | [_], _ => rfl) (F.okX scSh (fun vs H Q E h => ?_) (fun cdv A outer s H vs Q E hr h => ?_))
  · obtain ⟨v, ps, rfl, _⟩ := h
    rfl
  · refine ⟨_, (pss_cons (ps_expr (pe_callS GCp hr rfl gCp kCp bCp (fun σ => passAt (takes_of rfl rfl rfl rfl) σ) (by exact (pa_cons (pe_lst (pa_cons (pv 0) pa_nil)) pa_nil)))) pss_never), ?_⟩
    obtain ⟨v, ps, rfl, hd, hf, hbad, rz⟩ := h
    exact ⟨_, rfl, (by decide : 1 ≤ sizeLine), fun L nL => ⟨_, [ps], rfl, one_list nL hd, fine_one hf, ps, fb_one hbad, rz.same (same_upd nL)⟩⟩
abbrev sWi : Stmt := top 27
abbrev nWi : List Str := ["one", "other", "machine", "standing", "_"]
theorem scWi : FnScope nWi ["one", "other"] (defScope sWi) := ⟨rfl, rfl, rfl, by decide +kernel, rfl, by decide +kernel, by decide +kernel⟩
theorem has_Wi {f : Addr} {fd : FuncData} (F : Fun K "within" "within" sWi f fd) (g : mg "within" = some (.ref f)) (B : Blt mg) (hCp : HasX P w K mg base 9 "check_patterns" ["patterns"] (spCp K CP)) :
    HasX P w K mg base 10 "within" ["one", "other"] (spDD K CP) := by
  obtain ⟨fCp, dCp, gCp, kCp, bCp, GCp⟩ := hCp
  refine hasX_of F g (F.binds (ps := ["one", "other"]) fun _ _ _ _ _ _ us hl => match us, hl with | [_, _], _ => rfl) (F.okX scWi (fun vs H Q E h => ?_) (fun cdv A outer s H vs Q E hr h => ?_))
  · obtain ⟨v, u, ps, qs, rfl, _⟩ := h
    rfl
  · refine ⟨_, (pss_cons (ps_expr (pe_callS GCp hr rfl gCp kCp bCp (fun σ => passAt (takes_of rfl rfl rfl rfl) σ) (by exact (pa_cons (pe_lst (pa_cons (pv 0) (pa_cons (pv 1) pa_nil))) pa_nil)))) pss_never), ?_⟩
    obtain ⟨v, u, ps, qs, rfl, hd, he, hf, hg, bad, fb, rz⟩ := h
    exact ⟨_, rfl, _, rfl, (by decide : 2 ≤ sizeLine), fun L nL => ⟨_, [ps, qs], rfl, two_list nL hd he, fine_two hf hg, bad, fb, rz.same (same_upd nL)⟩⟩
abbrev sFa : Stmt := top 28
abbrev nFa : List Str := ["one", "other", "machine", "standing", "text"]
theorem scFa : FnScope nFa ["one", "other"] (defScope sFa) := ⟨rfl, rfl, rfl, by decide +kernel, rfl, by decide +kernel, by decide +kernel⟩
theorem has_Fa {f : Addr} {fd : FuncData} (F : Fun K "first_apart" "first_apart" sFa f fd) (g : mg "first_apart" = some (.ref f)) (B : Blt mg) (hCp : HasX P w K mg base 9 "check_patterns" ["patterns"] (spCp K CP)) :
    HasX P w K mg base 10 "first_apart" ["one", "other"] (spDD K CP) := by
  obtain ⟨fCp, dCp, gCp, kCp, bCp, GCp⟩ := hCp
  refine hasX_of F g (F.binds (ps := ["one", "other"]) fun _ _ _ _ _ _ us hl => match us, hl with | [_, _], _ => rfl) (F.okX scFa (fun vs H Q E h => ?_) (fun cdv A outer s H vs Q E hr h => ?_))
  · obtain ⟨v, u, ps, qs, rfl, _⟩ := h
    rfl
  · refine ⟨_, (pss_cons (ps_expr (pe_callS GCp hr rfl gCp kCp bCp (fun σ => passAt (takes_of rfl rfl rfl rfl) σ) (by exact (pa_cons (pe_lst (pa_cons (pv 0) (pa_cons (pv 1) pa_nil))) pa_nil)))) pss_never), ?_⟩
    obtain ⟨v, u, ps, qs, rfl, hd, he, hf, hg, bad, fb, rz⟩ := h
    exact ⟨_, rfl, _, rfl, (by decide : 2 ≤ sizeLine), fun L nL => ⟨_, [ps, qs], rfl, two_list nL hd he, fine_two hf hg, bad, fb, rz.same (same_upd nL)⟩⟩
abbrev sCm : Stmt := top 29
abbrev nCm : List Str := ["one", "other", "machine", "standing", "text"]
theorem scCm : FnScope nCm ["one", "other"] (defScope sCm) := ⟨rfl, rfl, rfl, by decide +kernel, rfl, by decide +kernel, by decide +kernel⟩
theorem has_Cm {f : Addr} {fd : FuncData} (F : Fun K "common" "common" sCm f fd) (g : mg "common" = some (.ref f)) (B : Blt mg) (hCp : HasX P w K mg base 9 "check_patterns" ["patterns"] (spCp K CP)) :
    HasX P w K mg base 10 "common" ["one", "other"] (spDD K CP) := by
  obtain ⟨fCp, dCp, gCp, kCp, bCp, GCp⟩ := hCp
  refine hasX_of F g (F.binds (ps := ["one", "other"]) fun _ _ _ _ _ _ us hl => match us, hl with | [_, _], _ => rfl) (F.okX scCm (fun vs H Q E h => ?_) (fun cdv A outer s H vs Q E hr h => ?_))
  · obtain ⟨v, u, ps, qs, rfl, _⟩ := h
    rfl
  · refine ⟨_, (pss_cons (ps_expr (pe_callS GCp hr rfl gCp kCp bCp (fun σ => passAt (takes_of rfl rfl rfl rfl) σ) (by exact (pa_cons (pe_lst (pa_cons (pv 0) (pa_cons (pv 1) pa_nil))) pa_nil)))) pss_never), ?_⟩
    obtain ⟨v, u, ps, qs, rfl, hd, he, hf, hg, bad, fb, rz⟩ := h
    exact ⟨_, rfl, _, rfl, (by decide : 2 ≤ sizeLine), fun L nL => ⟨_, [ps, qs], rfl, two_list nL hd he, fine_two hf hg, bad, fb, rz.same (same_upd nL)⟩⟩
abbrev sSa : Stmt := top 26
abbrev nSa : List Str := ["one", "other"]
theorem scSa : FnScope nSa ["one", "other"] (defScope sSa) := ⟨rfl, rfl, rfl, by decide +kernel, rfl, by decide +kernel, by decide +kernel⟩
theorem has_Sa {f : Addr} {fd : FuncData}  (F : Fun K "same" "same" sSa f fd) (g : mg "same" = some (.ref f)) (B : Blt mg) (hFa : HasX P w K mg base 10 "first_apart" ["one", "other"] (spDD K CP)) :
    HasX P w K mg base 11 "same" ["one", "other"] (spDD K CP) := by
  obtain ⟨fFa, dFa, gFa, kFa, bFa, GFa⟩ := hFa
  refine hasX_of F g (F.binds (ps := ["one", "other"]) fun _ _ _ _ _ _ us hl => match us, hl with | [_, _], _ => rfl) (F.okX scSa (fun vs H Q E h => ?_) (fun cdv A outer s H vs Q E hr h => ?_))
  · obtain ⟨v, u, ps, qs, rfl, _⟩ := h
    rfl
  · refine ⟨_, (pss_one (ps_ret (pe_cmpR op_isN (pe_callS GFa hr rfl gFa kFa bFa (fun σ => passAt (takes_of rfl rfl rfl rfl) σ) (by exact (pa_cons (pv 0) (pa_cons (pv 1) pa_nil)))) pe_non (nomark _)))), ?_⟩
    obtain ⟨v, u, ps, qs, rfl, hd, he, hf, hg, bad, fb, rz⟩ := h
    exact ⟨_, rfl, _, rfl, v, u, ps, qs, rfl, hd, he, hf, hg, bad, fb, rz⟩
abbrev sNm : Stmt := top 30
abbrev nNm : List Str := ["arms", "patterns", "arm", "pattern", "machine", "owners", "index", "_", "waiting", "standing"]
theorem scNm : FnScope nNm ["arms"] (defScope sNm) := ⟨rfl, rfl, rfl, by decide +kernel, rfl, by decide +kernel, by decide +kernel⟩
theorem has_Nm {f : Addr} {fd : FuncData} (F : Fun K "never_met" "never_met" sNm f fd) (g : mg "never_met" = some (.ref f)) (B : Blt mg) (hCp : HasX P w K mg base 9 "check_patterns" ["patterns"] (spCp K CP)) :
    HasX P w K mg base 10 "never_met" ["arms"] (spDA K CP) := by
  obtain ⟨fCp, dCp, gCp, kCp, bCp, GCp⟩ := hCp
  refine hasX_of F g (F.binds (ps := ["arms"]) fun _ _ _ _ _ _ us hl => match us, hl with | [_], _ => rfl) (F.okX scNm (fun vs H Q E h => ?_) (fun cdv A outer s H vs Q E hr h => ?_))
  · obtain ⟨v, as, rfl, _⟩ := h
    rfl
  · refine ⟨_, (pss_cons (ps_setLc2 (i := 1) (own := [("arm", 2), ("pattern", 3)]) (vs1 := [3]) (wi1 := iList K (tVar 2)) (te := tVar 3) (g := gName 2) (tt := tYes) (g1 := gName 3) (tt1 := tYes) rfl scNm.nd rfl rfl (sw_true rfl rfl rfl (by decide +kernel)) (pi_list (pv 0)) (blkOk_by (N := nNm) (sc := defScope sNm) (by decide +kernel)) (by decide) (fun _ _ _ _ _ => pg_name (i := 2) scNm.nd rfl (.inl rfl)) (fun _ _ _ _ _ => pts_nil) (fun _ _ _ _ _ => pi_list (pv 2)) (fun _ _ _ _ _ => pg_name (i := 3) scNm.nd rfl (.inl rfl)) (fun _ _ _ _ _ => pts_nil) (fun _ _ _ _ _ => pv 3))
        (pss_cons (ps_expr (pe_callS GCp hr rfl gCp kCp bCp (fun σ => passAt (takes_of rfl rfl rfl rfl) σ) (by exact (pa_cons (pv 1) pa_nil)))) pss_never)), ?_⟩
    obtain ⟨v, arms, rfl, hd, hf, la, bad, fb, rz⟩ := h
    obtain ⟨a, as, rfl, hq, all⟩ := dp_lst hd
    have e1 : (arms.map fun pss => PyData.list (pss.map patD)) = (arms.map fun pss => pss.map patD).map fun ds => .list ds := by rw [List.map_map]; rfl
    rw [e1] at all
    obtain ⟨xss, h1, h2, h3⟩ := dp_lists all
    have al := dpAll_flat h3
    have e2 : (arms.map fun pss => pss.map patD).flatten = arms.flatten.map patD := by rw [List.map_flatten]
    rw [e2] at al
    have few : xss.flatten.length ≤ 1000 := by
      have := dpLen al
      rw [List.length_map] at this
      have := hf.1
      omega
    delta tSeq tAsg
    refine lc2_flat (r := [none, none, none, none, none, none]) rfl hq h1 h2 few fun H' D s1 hD => ?_
    exact ⟨_, rfl, _, arms.flatten, rfl, .lst (SqL.of hD) (dpAll_same s1 al), hf, bad, fb, rz.same s1⟩
abbrev sUm : Stmt := top 32
abbrev nUm : List Str := ["arms", "patterns", "arm", "pattern", "machine", "standing", "text", "at"]
theorem scUm : FnScope nUm ["arms"] (defScope sUm) := ⟨rfl, rfl, rfl, by decide +kernel, rfl, by decide +kernel, by decide +kernel⟩
theorem has_Um {f : Addr} {fd : FuncData} (F : Fun K "unmet" "unmet" sUm f fd) (g : mg "unmet" = some (.ref f)) (B : Blt mg) (hCp : HasX P w K mg base 9 "check_patterns" ["patterns"] (spCp K CP)) :
    HasX P w K mg base 10 "unmet" ["arms"] (spDA K CP) := by
  obtain ⟨fCp, dCp, gCp, kCp, bCp, GCp⟩ := hCp
  refine hasX_of F g (F.binds (ps := ["arms"]) fun _ _ _ _ _ _ us hl => match us, hl with | [_], _ => rfl) (F.okX scUm (fun vs H Q E h => ?_) (fun cdv A outer s H vs Q E hr h => ?_))
  · obtain ⟨v, as, rfl, _⟩ := h
    rfl
  · refine ⟨_, (pss_cons (ps_setLc2 (i := 1) (own := [("arm", 2), ("pattern", 3)]) (vs1 := [3]) (wi1 := iList K (tVar 2)) (te := tVar 3) (g := gName 2) (tt := tYes) (g1 := gName 3) (tt1 := tYes) rfl scUm.nd rfl rfl (sw_true rfl rfl rfl (by decide +kernel)) (pi_list (pv 0)) (blkOk_by (N := nUm) (sc := defScope sUm) (by decide +kernel)) (by decide) (fun _ _ _ _ _ => pg_name (i := 2) scUm.nd rfl (.inl rfl)) (fun _ _ _ _ _ => pts_nil) (fun _ _ _ _ _ => pi_list (pv 2)) (fun _ _ _ _ _ => pg_name (i := 3) scUm.nd rfl (.inl rfl)) (fun _ _ _ _ _ => pts_nil) (fun _ _ _ _ _ => pv 3))
        (pss_cons (ps_expr (pe_callS GCp hr rfl gCp kCp bCp (fun σ => passAt (takes_of rfl rfl rfl rfl) σ) (by exact (pa_cons (pv 1) pa_nil)))) pss_never)), ?_⟩
    obtain ⟨v, arms, rfl, hd, hf, la, bad, fb, rz⟩ := h
    obtain ⟨a, as, rfl, hq, all⟩ := dp_lst hd
    have e1 : (arms.map fun pss => PyData.list (pss.map patD)) = (arms.map fun pss => pss.map patD).map fun ds => .list ds := by rw [List.map_map]; rfl
    rw [e1] at all
    obtain ⟨xss, h1, h2, h3⟩ := dp_lists all
    have al := dpAll_flat h3
    have e2 : (arms.map fun pss => pss.map patD).flatten = arms.flatten.map patD := by rw [List.map_flatten]
    rw [e2] at al
    have few : xss.flatten.length ≤ 1000 := by
      have := dpLen al
      rw [List.length_map] at this
      have := hf.1
      omega
    delta tSeq tAsg
    refine lc2_flat (r := [none, none, none, none]) rfl hq h1 h2 few fun H' D s1 hD => ?_
    exact ⟨_, rfl, _, arms.flatten, rfl, .lst (SqL.of hD) (dpAll_same s1 al), hf, bad, fb, rz.same s1⟩
end
end Qb
end PySem
namespace PySem
namespace Qb
open PySem.W PySem.Calls PyProof.Rows L2
/-! # equal data, by the law's own comparison -/
def spSm (K : Frag) : Nat → Sp
  | 0 => fun _ _ _ _ => False
  | n + 1 => fun vs H Q _ => ∃ (v u : V) (d : PyData), vs = [v, u] ∧ Dp K H v d ∧ Dp K H u d ∧ Pl n d ∧ ∀ H', Same H H' → Q (.bl true) H'
theorem sq_same {K : Frag} {H H' : Hp} {a : Addr} {xs : List V} (s : Same H H') (h : SqL K H a xs ∨ SqT K H a xs) : SqL K H' a xs ∨ SqT K H' a xs := by
  rcases h with h | h
  · exact .inl (s.seq h)
  · exact .inr (sqT_same s h)
section
variable {P : Program} {w : World} {K : Frag} {mg : Str → Option Value} {base : Heap}
abbrev sSm : Stmt := top 38
abbrev nSm : List Str := ["_law_found", "_law_due", "_law_k"]
theorem scSm : FnScope nSm ["_law_found", "_law_due"] (defScope sSm) := ⟨rfl, rfl, rfl, by decide +kernel, rfl, by decide +kernel, by decide +kernel⟩
theorem ok_Sm {f : Addr} {fd : FuncData} (F : Fun K "_law_same" "_law_same" sSm f fd) (g : mg "_law_same" = some (.ref f)) (b : Binds K fd ["_law_found", "_law_due"] []) (B : Blt mg) : ∀ n, FnOk P w K mg base CX0 (n + 1) f fd ["_law_found", "_law_due"] (spSm K n)
  | 0 => F.ok scSm (fun vs H Q E h => h.elim) (fun cdv A outer s H vs Q E hr h => h.elim)
  | n + 1 => by
    have GSm := ok_Sm F g b B n
    refine F.ok scSm (fun vs H Q E h => ?_) (fun cdv A outer s H vs Q E hr h => ?_)
    · obtain ⟨v, u, d, rfl, _⟩ := h
      rfl
    · refine ⟨_, (pss_cons (ps_if (pt_val (pe_callB call_isiT (by rfl) B.isi (by decide +kernel) (pa_cons (pv 1) (pa_cons (pe_tup (pa_cons (pe_bltn (v := .ty "list") (by rfl) B.list (by decide +kernel) rfl) (pa_cons (pe_bltn (v := .ty "tuple") (by rfl) B.tuple (by decide +kernel) rfl) pa_nil))) pa_nil)))) (pss_cons (ps_if (PW.pt (pw_or (pt_cmpR op_ne (pe_callB call_isi (by rfl) B.isi (by decide +kernel) (pa_cons (pv 1) (pa_cons (pe_bltn (v := .ty "list") (by rfl) B.list (by decide +kernel) rfl) pa_nil))) (pe_callB call_isi (by rfl) B.isi (by decide +kernel) (pa_cons (pv 0) (pa_cons (pe_bltn (v := .ty "list") (by rfl) B.list (by decide +kernel) rfl) pa_nil))) (nomark _)) (pw_or1 (pt_cmpR op_ne (pe_callB call_isi (by rfl) B.isi (by decide +kernel) (pa_cons (pv 1) (pa_cons (pe_bltn (v := .ty "tuple") (by rfl) B.tuple (by decide +kernel) rfl) pa_nil))) (pe_callB call_isi (by rfl) B.isi (by decide +kernel) (pa_cons (pv 0) (pa_cons (pe_bltn (v := .ty "tuple") (by rfl) B.tuple (by decide +kernel) rfl) pa_nil))) (nomark _))))) (pss_one (ps_ret pe_bl)) pss_nil)
          (pss_one (ps_ret (pe_and (pe_cmpR op_eq (pe_callB call_len_seq (by rfl) B.len PySem.boot_len (pa_cons (pv 0) pa_nil)) (pe_callB call_len_seq (by rfl) B.len PySem.boot_len (pa_cons (pv 1) pa_nil)) (nomark _)) (pe_one (pe_callB (cr_all rfl) (by rfl) B.all (by decide +kernel) (pa_cons (pe_lc (te := tCall (spSm K n) [] E0 (tCons (tOp (rIx K) (tVar 0) (tVar 2)) (tCons (tOp (rIx K) (tVar 1) (tVar 2)) tNil))) (own := [("_law_k", 2)]) (g := gName 2) (tt := tYes) rfl scSm.nd (pi_range1 (by rfl) B.range (pa_cons (pe_callB call_len_seq (by rfl) B.len PySem.boot_len (pa_cons (pv 1) pa_nil)) pa_nil)) (blkOk_by (N := nSm) (sc := defScope sSm) (by decide +kernel)) (fun _ _ _ _ _ => pg_name (i := 2) scSm.nd rfl (.inl rfl)) (fun _ _ _ _ _ => pts_nil) (fun _ _ _ _ _ => (pe_call GSm hr rfl g F.kp b .nil pass0 (pa_cons (pe_ix ix_seq (pv 0) (pv 2) (fun _ _ => rfl)) (pa_cons (pe_ix ix_seq (pv 1) (pv 2) (fun _ _ => rfl)) pa_nil))))) pa_nil))))))) pss_nil)
        (pss_cons (ps_if (pt_cmpR op_isN (pv 1) pe_non (nomark _)) (pss_one (ps_ret (pe_cmpR op_isN (pv 0) pe_non (nomark _)))) pss_nil)
        (pss_cons (ps_if (pt_val (pe_callB call_isi (by rfl) B.isi (by decide +kernel) (pa_cons (pv 1) (pa_cons (pe_bltn (v := .ty "int") (by rfl) B.int (by decide +kernel) rfl) pa_nil)))) (pss_one (ps_ret (pe_and (pe_callB call_isi (by rfl) B.isi (by decide +kernel) (pa_cons (pv 0) (pa_cons (pe_bltn (v := .ty "int") (by rfl) B.int (by decide +kernel) rfl) pa_nil))) (pe_and (pe_cmpR op_eq (pe_callB call_isi (by rfl) B.isi (by decide +kernel) (pa_cons (pv 0) (pa_cons (pe_bltn (v := .ty "bool") (by rfl) B.bool (by decide +kernel) rfl) pa_nil))) (pe_callB call_isi (by rfl) B.isi (by decide +kernel) (pa_cons (pv 1) (pa_cons (pe_bltn (v := .ty "bool") (by rfl) B.bool (by decide +kernel) rfl) pa_nil))) (nomark _)) (pe_one (pe_cmpR op_eq (pv 0) (pv 1) (nomark _))))))) pss_nil)
        (pss_one (ps_ret (pe_and (pe_callB call_isi (by rfl) B.isi (by decide +kernel) (pa_cons (pv 0) (pa_cons (pe_bltn (v := .ty "str") (by rfl) B.str (by decide +kernel) rfl) pa_nil))) (pe_one (pe_cmpR op_eq (pv 0) (pv 1) (nomark _))))))))), ?_⟩
      obtain ⟨v, u, d, rfl, hv, hu, hp, k⟩ := h
      rcases (show Pl0 d ∨ ∃ m ds, n = m + 1 ∧ (d = .list ds ∨ d = .tuple ds) ∧ ds.length ≤ 1000 ∧ ∀ e ∈ ds, Pl m e from by
        cases n with
        | zero => exact .inl hp
        | succ m => rcases hp with h | ⟨ds, h⟩
                    · exact .inl h
                    · exact .inr ⟨m, ds, rfl, h⟩) with h0 | ⟨m, ds, rfl, h1, h2, h3⟩
      · rcases h0 with ⟨x, rfl⟩ | ⟨x, rfl⟩ | ⟨x, rfl⟩ | rfl
        · cases hv
          cases hu
          refine ⟨_, rfl, (by decide : 2 ≤ sizeLine), fun T nT => ⟨.str x, T, _, .type "str", [.type "list", .type "tuple"], false, rfl, upd_same, .cons (.ty _) (.cons (.ty _) .nil), .base (.str x), kan (kit_ty (by decide +kernel)) (kan (kit_ty (by decide +kernel)) kitAny_nil), _, rfl, if_no rfl ?_⟩⟩
          refine ⟨_, rfl, rfl, _, rfl, if_no (by simp) ?_⟩
          refine ⟨_, rfl, .str x, .ty "int", .type "str", .type "int", false, rfl, .ty _, .base (.str x), kit_ty (by decide +kernel), _, rfl, if_no rfl ?_⟩
          refine ⟨_, rfl, .str x, .ty "str", .type "str", .type "str", true, rfl, .ty _, .base (.str x), kit_ty (by decide +kernel), _, rfl, if_yes rfl ⟨_, rfl, _, rfl, rfl, ?_⟩⟩
          rw [decide_eq_true rfl]
          exact k _ (same_upd nT)
        · cases hv
          cases hu
          refine ⟨_, rfl, (by decide : 2 ≤ sizeLine), fun T nT => ⟨.bl x, T, _, .type "bool", [.type "list", .type "tuple"], false, rfl, upd_same, .cons (.ty _) (.cons (.ty _) .nil), .base (.bl x), kan (kit_ty (by decide +kernel)) (kan (kit_ty (by decide +kernel)) kitAny_nil), _, rfl, if_no rfl ?_⟩⟩
          refine ⟨_, rfl, rfl, _, rfl, if_no (by simp) ?_⟩
          refine ⟨_, rfl, .bl x, .ty "int", .type "bool", .type "int", true, rfl, .ty _, .base (.bl x), kit_ty (by decide +kernel), _, rfl, if_yes rfl ?_⟩
          refine ⟨_, rfl, .bl x, .ty "int", .type "bool", .type "int", true, rfl, .ty _, .base (.bl x), kit_ty (by decide +kernel), _, rfl, if_yes rfl ?_⟩
          refine ⟨_, rfl, .bl x, .ty "bool", .type "bool", .type "bool", true, rfl, .ty _, .base (.bl x), kit_ty (by decide +kernel), _, rfl, .bl x, .ty "bool", .type "bool", .type "bool", true, rfl, .ty _, .base (.bl x), kit_ty (by decide +kernel), rfl, _, rfl, if_yes rfl ⟨_, rfl, _, rfl, rfl, ?_⟩⟩
          rw [decide_eq_true rfl]
          exact k _ (same_upd nT)
        · cases hv
          cases hu
          refine ⟨_, rfl, (by decide : 2 ≤ sizeLine), fun T nT => ⟨.int x, T, _, .type "int", [.type "list", .type "tuple"], false, rfl, upd_same, .cons (.ty _) (.cons (.ty _) .nil), .base (.int x), kan (kit_ty (by decide +kernel)) (kan (kit_ty (by decide +kernel)) kitAny_nil), _, rfl, if_no rfl ?_⟩⟩
          refine ⟨_, rfl, rfl, _, rfl, if_no (by simp) ?_⟩
          refine ⟨_, rfl, .int x, .ty "int", .type "int", .type "int", true, rfl, .ty _, .base (.int x), kit_ty (by decide +kernel), _, rfl, if_yes rfl ?_⟩
          refine ⟨_, rfl, .int x, .ty "int", .type "int", .type "int", true, rfl, .ty _, .base (.int x), kit_ty (by decide +kernel), _, rfl, if_yes rfl ?_⟩
          refine ⟨_, rfl, .int x, .ty "bool", .type "int", .type "bool", false, rfl, .ty _, .base (.int x), kit_ty (by decide +kernel), _, rfl, .int x, .ty "bool", .type "int", .type "bool", false, rfl, .ty _, .base (.int x), kit_ty (by decide +kernel), rfl, _, rfl, if_yes rfl ⟨_, rfl, _, rfl, rfl, ?_⟩⟩
          rw [decide_eq_true rfl]
          exact k _ (same_upd nT)
        · cases hv
          cases hu
          refine ⟨_, rfl, (by decide : 2 ≤ sizeLine), fun T nT => ⟨.non, T, _, .type "NoneType", [.type "list", .type "tuple"], false, rfl, upd_same, .cons (.ty _) (.cons (.ty _) .nil), .base .non, kan (kit_ty (by decide +kernel)) (kan (kit_ty (by decide +kernel)) kitAny_nil), _, rfl, if_no rfl ?_⟩⟩
          refine ⟨_, rfl, rfl, _, rfl, if_yes (by simp) ⟨_, rfl, rfl, ?_⟩⟩
          rw [decide_eq_true rfl]
          exact k _ (same_upd nT)
      · rcases h1 with rfl | rfl
        · obtain ⟨a, xs, rfl, hqa, alla⟩ := dp_lst hv
          obtain ⟨c, ys, rfl, hqc, allc⟩ := dp_lst hu
          have lx := dpLen alla
          have ly := dpLen allc
          refine ⟨_, rfl, (by decide : 2 ≤ sizeLine), fun T nT => ?_⟩
          have s1 := same_upd (o := .tup [.ty "list", .ty "tuple"]) nT
          have hqa := s1.seq hqa
          have hqc := s1.seq hqc
          refine ⟨.ref c, T, _, .type "list", [.type "list", .type "tuple"], true, rfl, upd_same, .cons (.ty _) (.cons (.ty _) .nil), ty_lst hqc, kay (kit_ty (by decide +kernel)), _, rfl, if_yes rfl ?_⟩
          refine ⟨_, rfl, .ref c, .ty "list", .type "list", .type "list", true, rfl, .ty _, ty_lst hqc, kit_ty (by decide +kernel), _, rfl, .ref a, .ty "list", .type "list", .type "list", true, rfl, .ty _, ty_lst hqa, kit_ty (by decide +kernel), rfl, _, rfl, if_no (by simp) ?_⟩
          refine ⟨_, rfl, .ref c, .ty "tuple", .type "list", .type "tuple", false, rfl, .ty _, ty_lst hqc, kit_ty (by decide +kernel), _, rfl, .ref a, .ty "tuple", .type "list", .type "tuple", false, rfl, .ty _, ty_lst hqa, kit_ty (by decide +kernel), rfl, _, rfl, if_no (by simp) ?_⟩
          refine ⟨_, rfl, a, xs, rfl, .inl hqa, _, rfl, c, ys, rfl, .inl hqc, rfl, _, rfl, if_yes (by rw [lx, ly]; simp) ?_⟩
          refine ⟨_, rfl, c, ys, rfl, .inl hqc, _, rfl, by omega, by omega, fun D hD => ?_⟩
          refine lc_it (walk_range (lo := 0) (n := ys.length)) (fun i H' => Same (L2.upd H T (.tup [.ty "list", .ty "tuple"])) H' ∧ H' D = some (.lst ((List.replicate i true).map V.bl))) ⟨same_upd hD, upd_same⟩ (fun _ _ _ _ => trivial) (fun i x H' H2 hi e y => ?_) (fun H' e => ?_)
          · obtain ⟨s2, hDt⟩ := e
            obtain ⟨rfl, rfl⟩ := y
            obtain ⟨d, hdi⟩ : ∃ d, ds[i]? = some d := ⟨_, List.getElem?_eq_getElem (by omega)⟩
            obtain ⟨x1, hx1, dx1⟩ := dpAt alla hdi
            obtain ⟨x2, hx2, dx2⟩ := dpAt allc hdi
            refine ⟨rfl, _, rfl, _, rfl, .inl ⟨a, xs, _, x1, rfl, rfl, s2.seq hqa, by rw [Int.zero_add]; exact atI_nat hx1, _, rfl, _, rfl, .inl ⟨c, ys, _, x2, rfl, rfl, s2.seq hqc, by rw [Int.zero_add]; exact atI_nat hx2, x1, x2, d, rfl, dp_same (s1.trans s2) dx1, dp_same (s1.trans s2) dx2, h3 d (List.mem_of_getElem? hdi), fun H3 s3 => ⟨_, s3 _ _ hDt, ?_, same_upd2 (s2.trans s3) hD, ?_⟩⟩⟩⟩
            · rw [List.length_map, List.length_replicate, sizeLine_eq]
              omega
            · rw [upd_same, List.replicate_succ', List.map_append]
              rfl
          · obtain ⟨s2, hDt⟩ := e
            refine ⟨D, _, rfl, SqL.of hDt, ?_⟩
            rw [show (List.replicate ys.length true).all id = true by rw [List.all_eq_true]; intro x m; exact List.eq_of_mem_replicate m]
            exact k _ (s1.trans s2)
        · obtain ⟨a, xs, rfl, hqa, alla⟩ := dp_tup hv
          obtain ⟨c, ys, rfl, hqc, allc⟩ := dp_tup hu
          have lx := dpLen alla
          have ly := dpLen allc
          refine ⟨_, rfl, (by decide : 2 ≤ sizeLine), fun T nT => ?_⟩
          have s1 := same_upd (o := .tup [.ty "list", .ty "tuple"]) nT
          have hqa := sqT_same s1 hqa
          have hqc := sqT_same s1 hqc
          refine ⟨.ref c, T, _, .type "tuple", [.type "list", .type "tuple"], true, rfl, upd_same, .cons (.ty _) (.cons (.ty _) .nil), ty_tup hqc, kan (kit_ty (by decide +kernel)) (kay (kit_ty (by decide +kernel))), _, rfl, if_yes rfl ?_⟩
          refine ⟨_, rfl, .ref c, .ty "list", .type "tuple", .type "list", false, rfl, .ty _, ty_tup hqc, kit_ty (by decide +kernel), _, rfl, .ref a, .ty "list", .type "tuple", .type "list", false, rfl, .ty _, ty_tup hqa, kit_ty (by decide +kernel), rfl, _, rfl, if_no (by simp) ?_⟩
          refine ⟨_, rfl, .ref c, .ty "tuple", .type "tuple", .type "tuple", true, rfl, .ty _, ty_tup hqc, kit_ty (by decide +kernel), _, rfl, .ref a, .ty "tuple", .type "tuple", .type "tuple", true, rfl, .ty _, ty_tup hqa, kit_ty (by decide +kernel), rfl, _, rfl, if_no (by simp) ?_⟩
          refine ⟨_, rfl, a, xs, rfl, .inr hqa, _, rfl, c, ys, rfl, .inr hqc, rfl, _, rfl, if_yes (by rw [lx, ly]; simp) ?_⟩
          refine ⟨_, rfl, c, ys, rfl, .inr hqc, _, rfl, by omega, by omega, fun D hD => ?_⟩
          refine lc_it (walk_range (lo := 0) (n := ys.length)) (fun i H' => Same (L2.upd H T (.tup [.ty "list", .ty "tuple"])) H' ∧ H' D = some (.lst ((List.replicate i true).map V.bl))) ⟨same_upd hD, upd_same⟩ (fun _ _ _ _ => trivial) (fun i x H' H2 hi e y => ?_) (fun H' e => ?_)
          · obtain ⟨s2, hDt⟩ := e
            obtain ⟨rfl, rfl⟩ := y
            obtain ⟨d, hdi⟩ : ∃ d, ds[i]? = some d := ⟨_, List.getElem?_eq_getElem (by omega)⟩
            obtain ⟨x1, hx1, dx1⟩ := dpAt alla hdi
            obtain ⟨x2, hx2, dx2⟩ := dpAt allc hdi
            refine ⟨rfl, _, rfl, _, rfl, .inr (.inl ⟨a, xs, _, x1, rfl, rfl, sqT_same s2 hqa, by rw [Int.zero_add]; exact atI_nat hx1, _, rfl, _, rfl, .inr (.inl ⟨c, ys, _, x2, rfl, rfl, sqT_same s2 hqc, by rw [Int.zero_add]; exact atI_nat hx2, x1, x2, d, rfl, dp_same (s1.trans s2) dx1, dp_same (s1.trans s2) dx2, h3 d (List.mem_of_getElem? hdi), fun H3 s3 => ⟨_, s3 _ _ hDt, ?_, same_upd2 (s2.trans s3) hD, ?_⟩⟩)⟩)⟩
            · rw [List.length_map, List.length_replicate, sizeLine_eq]
              omega
            · rw [upd_same, List.replicate_succ', List.map_append]
              rfl
          · obtain ⟨s2, hDt⟩ := e
            refine ⟨D, _, rfl, SqL.of hDt, ?_⟩
            rw [show (List.replicate ys.length true).all id = true by rw [List.all_eq_true]; intro x m; exact List.eq_of_mem_replicate m]
            exact k _ (s1.trans s2)
end
/-! # what the law draws -/
def Pu (H : Hp) (p : Addr) (n : Nat) : Prop := ∃ a b c : Int, H p = some (.lst [.int a, .int b, .int c]) ∧ 0 ≤ a ∧ 0 ≤ b ∧ b < 10 ^ 24 + 7 ∧ 0 ≤ c ∧ c ≤ n
theorem Pu.same {H H' : Hp} {p : Addr} {n : Nat} (h : Pu H p n) (s : Same H H') : Pu H' p n := by
  obtain ⟨a, b, c, e, r⟩ := h
  exact ⟨a, b, c, s _ _ e, r⟩
theorem Pu.le {H : Hp} {p : Addr} {n m : Nat} (h : Pu H p n) (l : n ≤ m) : Pu H p m := by
  obtain ⟨a, b, c, e, r1, r2, r3, r4, r5⟩ := h
  exact ⟨a, b, c, e, r1, r2, r3, r4, by omega⟩
def spPu (K : Frag) : Sp := fun vs H Q _ => ∃ (a : Addr) (ns : List Int) (i : Nat), vs = [.ref a, .int (i : Nat)] ∧ SqL K H a (ns.map V.int) ∧ ns.length ≤ 63 ∧ ∀ H' p, Same H H' → H p = none → Pu H' p 0 → Q (.ref p) H'
def spCo : Sp := fun vs H Q _ => ∃ (p : Addr) (m n : Nat), vs = [.ref p, .int (m : Nat)] ∧ 0 < m ∧ m ≤ 1000 ∧ n ≤ 10000 ∧ Pu H p n ∧ ∀ (H' : Hp) (r : Nat), r < m → Pu H' p (n + 1) → (∀ b, b ≠ p → H' b = H b) → Q (.int (r : Nat)) H'
def spAl : Sp := fun vs H Q _ => vs = [] ∧ Q (.str signsS) H
section
variable {P : Program} {w : World} {K : Frag} {mg : Str → Option Value} {base : Heap}
abbrev sPu : Stmt := top 36
abbrev nPu : List Str := ["_law_script", "_law_at", "_law_cell"]
theorem scPu : FnScope nPu ["_law_script", "_law_at"] (defScope sPu) := ⟨rfl, rfl, rfl, by decide +kernel, rfl, by decide +kernel, by decide +kernel⟩
theorem has_Pu {f : Addr} {fd : FuncData} (F : Fun K "_law_purse" "_law_purse" sPu f fd) (g : mg "_law_purse" = some (.ref f)) (B : Blt mg)  :
    Has P w K mg base 1 "_law_purse" ["_law_script", "_law_at"] (spPu K) := by
  refine has_of F g (F.binds (ps := ["_law_script", "_law_at"]) fun _ _ _ _ _ _ us hl => match us, hl with | [_, _], _ => rfl) (F.ok scPu (fun vs H Q E h => ?_) (fun cdv A outer s H vs Q E hr h => ?_))
  · obtain ⟨a, ns, i, rfl, _⟩ := h
    rfl
  · refine ⟨_, (pss_cons (ps_set (i := 2) scPu.nd rfl (.inl rfl) (pe_ifExp (pt_cmpR op_lt (pv 1) (pe_callB call_len_seq (by rfl) B.len PySem.boot_len (pa_cons (pv 0) pa_nil)) (nomark _)) (pe_ix ix_list (pv 0) (pv 1) (fun _ _ => rfl)) pe_int))
        (pss_one (ps_ret (pe_lst (pa_cons (pe_callB (call_max2 rfl) (by rfl) B.max (by decide +kernel) (pa_cons pe_int (pa_cons (pe_op op_sub (pe_callB call_abs (by rfl) B.abs (by decide +kernel) (pa_cons (pv 2) pa_nil)) (pe_op op_pow pe_int pe_int)) pa_nil))) (pa_cons (pe_op op_modN (pe_callTy call_int1 (by rfl) B.int (by decide +kernel) (pa_cons (pe_op op_add (pe_op op_add (pe_op op_mul (pv 2) pe_int) (pe_op op_mul (pv 1) pe_int)) pe_int) pa_nil)) (pe_op op_add (pe_op op_pow pe_int pe_int) pe_int)) (pa_cons pe_int pa_nil))))))), ?_⟩
    obtain ⟨a, ns, i, rfl, hq, hl, k⟩ := h
    have m24 : (10 : Int) ^ (24 : Int).toNat + 7 = 10 ^ 24 + 7 := rfl
    refine ⟨_, rfl, _, rfl, a, _, rfl, .inl hq, _, _, rfl, rfl, _, rfl, if_by (fun e => ⟨_, rfl, _, rfl, a, _, _, .int (ns[i]'(by have := of_decide_eq_true e; rw [List.length_map] at this; omega)), rfl, rfl, hq, atI_nat (by rw [List.getElem?_map, List.getElem?_eq_getElem (by have := of_decide_eq_true e; rw [List.length_map] at this; omega)]; rfl), ?_⟩) (fun e => ?_)⟩
    all_goals
      refine ⟨_, rfl, _, rfl, _, _, rfl, rfl, ⟨by decide, by decide, by decide⟩, _, _, rfl, rfl, _, _, rfl, ?_⟩
      refine ⟨_, rfl, _, _, rfl, rfl, .inr ⟨by decide, by decide⟩, _, rfl, _, _, rfl, rfl, .inr ⟨by decide, by decide⟩, _, _, rfl, rfl, _, _, rfl, rfl, .inl ⟨_, rfl, _, _, rfl, rfl, ⟨by decide, by decide, by decide⟩, _, _, rfl, rfl, _, _, rfl, rfl, by show (_ : Int) ≠ 0; decide, (by decide : 3 ≤ sizeLine), fun p np => ?_⟩⟩
      refine k _ p (same_upd np) np ⟨_, _, _, upd_same, ?_, fm0 (by decide) _, fm1 (by decide) _, by decide, by decide⟩
      split <;> omega
abbrev sCo : Stmt := top 37
abbrev nCo : List Str := ["_law_purse_here", "_law_many", "_law_coin_here", "_law_stirred"]
theorem scCo : FnScope nCo ["_law_purse_here", "_law_many"] (defScope sCo) := ⟨rfl, rfl, rfl, by decide +kernel, rfl, by decide +kernel, by decide +kernel⟩
theorem has_Co {f : Addr} {fd : FuncData} (F : Fun K "_law_coin" "_law_coin" sCo f fd) (g : mg "_law_coin" = some (.ref f)) (B : Blt mg)  :
    Has P w K mg base 1 "_law_coin" ["_law_purse_here", "_law_many"] spCo := by
  refine has_of F g (F.binds (ps := ["_law_purse_here", "_law_many"]) fun _ _ _ _ _ _ us hl => match us, hl with | [_, _], _ => rfl) (F.ok scCo (fun vs H Q E h => ?_) (fun cdv A outer s H vs Q E hr h => ?_))
  · obtain ⟨p, m, n, rfl, _⟩ := h
    rfl
  · refine ⟨_, (pss_cons (ps_if (pt_cmpR op_gt (pe_ix ix_list (pv 0) pe_int (fun _ _ => rfl)) pe_int (nomark _)) (pss_cons (ps_set (i := 2) scCo.nd rfl (.inl rfl) (pe_op op_modN (pe_callTy call_int1 (by rfl) B.int (by decide +kernel) (pa_cons (pe_ix ix_list (pv 0) pe_int (fun _ _ => rfl)) pa_nil)) (pv 1)))
          (pss_cons (ps_asg (pe_op op_fdivW (pe_ix ix_list (pv 0) pe_int (fun _ _ => rfl)) (pv 1)) (pg_sub (pv 0) pe_int set_list))
          (pss_one (ps_ret (pv 2))))) pss_nil)
        (pss_cons (ps_asg (pe_op op_add (pe_ix ix_list (pv 0) pe_int (fun _ _ => rfl)) pe_int) (pg_sub (pv 0) pe_int set_list))
        (pss_cons (ps_set (i := 3) scCo.nd rfl (.inl rfl) (pe_op op_add (pe_ix ix_list (pv 0) pe_int (fun _ _ => rfl)) (pe_op op_mul pe_int (pe_ix ix_list (pv 0) pe_int (fun _ _ => rfl)))))
        (pss_cons (ps_set (i := 3) scCo.nd rfl (.inl rfl) (pe_op op_modN (pe_callTy call_int1 (by rfl) B.int (by decide +kernel) (pa_cons (pe_op op_add (pe_op op_mulW (pv 3) (pv 3)) (pe_ix ix_list (pv 0) pe_int (fun _ _ => rfl))) pa_nil)) (pe_op op_add (pe_op op_pow pe_int pe_int) pe_int)))
        (pss_cons (ps_set (i := 3) scCo.nd rfl (.inl rfl) (pe_op op_modN (pe_callTy call_int1 (by rfl) B.int (by decide +kernel) (pa_cons (pe_op op_add (pe_op op_mul (pe_op op_mulW (pv 3) (pv 3)) pe_int) (pv 3)) pa_nil)) (pe_op op_add (pe_op op_pow pe_int pe_int) pe_int)))
        (pss_one (ps_ret (pe_op op_modN (pe_callTy call_int1 (by rfl) B.int (by decide +kernel) (pa_cons (pe_op op_fdivW (pv 3) pe_int) pa_nil)) (pv 1))))))))), ?_⟩
    obtain ⟨p, m, n, rfl, m0, m1, hn, ⟨x, y, z, hp, x0, y0, y1, z0, z1⟩, k⟩ := h
    have hpL : SqL K H p [V.int x, V.int y, V.int z] := SqL.of hp
    have mi : (0 : Int) < (m : Nat) := by omega
    have fin : ∀ (H' : Hp) (r : Int), 0 ≤ r → r < (m : Nat) → Pu H' p (n + 1) → (∀ b, b ≠ p → H' b = H b) → Q (.int r) H' := fun H' r r0 r1 u off => by
      have z := k H' r.toNat (by omega) u off
      rw [show ((r.toNat : Nat) : Int) = r by omega] at z
      exact z
    refine ⟨_, rfl, p, _, _, _, rfl, rfl, hpL, rfl, _, _, rfl, rfl, _, rfl, if_by (fun e => ?_) (fun e => ?_)⟩
    · refine ⟨_, rfl, p, _, _, _, rfl, rfl, hpL, rfl, .inl ⟨_, rfl, _, rfl, _, _, rfl, rfl, Int.ne_of_gt mi, ?_⟩⟩
      refine ⟨_, rfl, p, _, _, _, rfl, rfl, hpL, rfl, _, rfl, _, _, rfl, rfl, wide_div (b := 200) mi (by omega) (by decide) (by decide), _, rfl, p, _, _, 0, rfl, rfl, hp, rfl, ?_⟩
      refine ⟨_, rfl, fin _ _ (fm0 mi _) (fm1 mi _) ⟨_, _, _, upd_same, Int.ediv_nonneg x0 (by omega), y0, y1, z0, by omega⟩ fun b h => upd_ne h⟩
    · refine ⟨_, rfl, p, _, _, _, rfl, rfl, hpL, rfl, _, _, rfl, rfl, _, rfl, p, _, _, 2, rfl, rfl, hp, rfl, ?_⟩
      have hp1 : (L2.upd H p (.lst [.int x, .int y, .int (z + 1)])) p = some (.lst [.int x, .int y, .int (z + 1)]) := upd_same
      have hp1L : SqL K (L2.upd H p (.lst [.int x, .int y, .int (z + 1)])) p [V.int x, V.int y, V.int (z + 1)] := SqL.of hp1
      refine ⟨_, rfl, p, _, _, _, rfl, rfl, hp1L, rfl, _, rfl, p, _, _, _, rfl, rfl, hp1L, rfl, _, _, rfl, rfl, .inl ⟨by decide, by decide⟩, _, _, rfl, rfl, ?_⟩
      have b1 : 0 ≤ y + 362437 * (z + 1) ∧ y + 362437 * (z + 1) < 2 ^ 90 := by
        have e1 : (10 : Int) ^ 24 + 7 < 2 ^ 89 := by decide
        have e2 : (2 : Int) ^ 90 = 2 ^ 89 + 2 ^ 89 := by decide
        have e3 : (362437 * 20000 : Int) < 2 ^ 89 := by decide
        omega
      refine ⟨_, rfl, _, rfl, _, _, rfl, rfl, wide_mul (a := 100) (b := 100) (by omega) (by omega) (by decide) (by decide) (by decide), _, rfl, p, _, _, _, rfl, rfl, hp1L, rfl, _, _, rfl, rfl, .inl ⟨_, rfl, _, _, rfl, rfl, ⟨by decide, by decide, by decide⟩, _, _, rfl, rfl, _, _, rfl, rfl, by show (_ : Int) ≠ 0; decide, ?_⟩⟩
      have t0 : 0 ≤ ((y + 362437 * (z + 1)) * (y + 362437 * (z + 1)) + (z + 1)).fmod (10 ^ Int.toNat 25 + 13) := fm0 (by decide) _
      have t2 : ((y + 362437 * (z + 1)) * (y + 362437 * (z + 1)) + (z + 1)).fmod (10 ^ Int.toNat 25 + 13) < 2 ^ 90 := Int.lt_trans (fm1 (by decide) _) (by decide)
      refine ⟨_, rfl, _, rfl, _, _, rfl, rfl, wide_mul (a := 100) (b := 100) (by omega) (by omega) (by decide) (by decide) (by decide), _, _, rfl, rfl, .inr ⟨by decide, by decide⟩, _, rfl, _, _, rfl, rfl, .inl ⟨_, rfl, _, _, rfl, rfl, ⟨by decide, by decide, by decide⟩, _, _, rfl, rfl, _, _, rfl, rfl, by show (_ : Int) ≠ 0; decide, ?_⟩⟩
      refine ⟨_, rfl, _, _, rfl, rfl, wide_div (j := 1000) (b := 200) (by decide) (by decide) (by decide) (by decide), .inl ⟨_, rfl, _, rfl, _, _, rfl, rfl, Int.ne_of_gt mi, ?_⟩⟩
      exact fin _ _ (fm0 mi _) (fm1 mi _) ⟨_, _, _, upd_same, x0, y0, y1, by omega, by omega⟩ fun b h => upd_ne h
abbrev sAl : Stmt := top 40
abbrev nAl : List Str := ["_law_early"]
theorem scAl : FnScope nAl [] (defScope sAl) := ⟨rfl, rfl, rfl, by decide +kernel, rfl, by decide +kernel, by decide +kernel⟩
theorem has_Al {f : Addr} {fd : FuncData} (F : Fun K "_law_signs" "_law_signs" sAl f fd) (g : mg "_law_signs" = some (.ref f)) (B : Blt mg)  :
    Has P w K mg base 1 "_law_signs" [] spAl := by
  refine has_of F g (F.binds (ps := []) fun _ _ _ _ _ _ us hl => match us, hl with | [], _ => rfl) (F.ok scAl (fun vs H Q E h => ?_) (fun cdv A outer s H vs Q E hr h => ?_))
  · obtain ⟨rfl, _⟩ := h
    rfl
  · refine ⟨_, (pss_cons (ps_set (i := 0) scAl.nd rfl (.inl rfl) pe_str)
        (pss_one (ps_ret (pe_op op_add_str (pv 0) pe_str)))), ?_⟩
    obtain ⟨rfl, k⟩ := h
    refine ⟨_, rfl, _, _, rfl, rfl, small_line (by decide +kernel), ?_⟩
    exact k
end
theorem offs {p : Addr} {H H' : Hp} (off : ∀ b, b ≠ p → H' b = H b) : Same (hide H p) (hide H' p) := fun b o h => by
  unfold hide at h ⊢
  by_cases e : b = p
  · rw [if_pos e] at h; cases h
  · rw [if_neg e] at h ⊢
    rw [off b e]
    exact h
def BldP (K : Frag) (p : Addr) (H H' : Hp) (R : Addr) (ds : List PyData) : Prop := H R = none ∧ R ≠ p ∧ Same (hide H p) (hide (hide H' R) p) ∧ ∃ ys, H' R = some (.lst ys) ∧ DpAll K (hide (hide H' R) p) ys ds
theorem hide_comm {H : Hp} {a b : Addr} : hide (hide H a) b = hide (hide H b) a := by
  funext c
  unfold hide
  by_cases e : c = b
  · rw [if_pos e]
    by_cases e2 : c = a
    · rw [if_pos e2]
    · rw [if_neg e2, if_pos e]
  · rw [if_neg e]
    by_cases e2 : c = a
    · rw [if_pos e2, if_pos e2]
    · rw [if_neg e2, if_neg e2, if_neg e]
theorem BldP.new {K : Frag} {p R : Addr} {H : Hp} (n : H R = none) (ne : R ≠ p) : BldP K p H (L2.upd H R (.lst [])) R [] :=
  ⟨n, ne, hide_mono (hide_of (same_upd n) n), [], upd_same, .nil⟩
theorem BldP.same {K : Frag} {p R : Addr} {H H1 H2 : Hp} {ds : List PyData} (b : BldP K p H H1 R ds) (s : Same H1 H2) : BldP K p H H2 R ds := by
  obtain ⟨n, ne, s0, ys, h, a⟩ := b
  exact ⟨n, ne, s0.trans (hide_mono (hide_mono s)), ys, s _ _ h, dpAll_same (hide_mono (hide_mono s)) a⟩
theorem BldP.draw {K : Frag} {p R : Addr} {H H1 H2 : Hp} {ds : List PyData} (b : BldP K p H H1 R ds) (off : ∀ b, b ≠ p → H2 b = H1 b) : BldP K p H H2 R ds := by
  obtain ⟨n, ne, s0, ys, h, a⟩ := b
  have s : Same (hide (hide H1 R) p) (hide (hide H2 R) p) := by
    rw [hide_comm (a := R), hide_comm (a := R)]
    exact hide_mono (offs off)
  exact ⟨n, ne, s0.trans s, ys, by rw [off R ne]; exact h, dpAll_same s a⟩
theorem BldP.put {K : Frag} {p R : Addr} {H H1 : Hp} {ds : List PyData} (b : BldP K p H H1 R ds) : ∃ ys, H1 R = some (.lst ys) ∧ ys.length = ds.length ∧ ∀ v d, Dp K (hide (hide H1 R) p) v d → BldP K p H (L2.upd H1 R (.lst (ys ++ [v]))) R (ds ++ [d]) := by
  obtain ⟨n, ne, s0, ys, h, a⟩ := b
  exact ⟨ys, h, dpLen a, fun v d hd => ⟨n, ne, s0.trans (hide_mono hide_upd), _, upd_same, dpApp (dpAll_same (hide_mono hide_upd) a) (.cons (dp_same (hide_mono hide_upd) hd) .nil)⟩⟩
theorem BldP.two {K : Frag} {p R T : Addr} {H H1 : Hp} {ds : List PyData} (b : BldP K p H H1 R ds) {o : HO} (hp : H1 p = some o) (n : H1 T = none) (x y : Str) : Dp K (hide (hide (L2.upd H1 T (.tup [.str x, .str y])) R) p) (.ref T) (.tuple [.str x, .str y]) := by
  obtain ⟨_, ne, s0, ys, h, a⟩ := b
  exact .tup (SqT.of (hide_ne (hide_ne upd_same (fun e => by rw [e, h] at n; cases n)) (fun e => by rw [e, hp] at n; cases n))) (.cons (.str _) (.cons (.str _) .nil))
theorem pick_of (ws : List Str) {r : Nat} (h : r < ws.length) : ∃ x ∈ ws, (ws.map V.str)[r]? = some (V.str x) := ⟨ws[r], List.getElem_mem h, by rw [List.getElem?_map, List.getElem?_eq_getElem h]; rfl⟩
theorem pick_cs (z : Str) {r : Nat} (h : r < z.length) : ∃ c ∈ cs z, (cs z)[r]? = some c := by
  rw [len_cs] at h
  exact ⟨(cs z)[r], List.getElem_mem h, List.getElem?_eq_getElem h⟩
theorem Pu.put {H : Hp} {p a : Addr} {n : Nat} {o : HO} (h : Pu H p n) (ne : a ≠ p) : Pu (L2.upd H a o) p n := by
  obtain ⟨x, y, z, e, r⟩ := h
  exact ⟨x, y, z, by rw [upd_ne (Ne.symm ne)]; exact e, r⟩
theorem Pu.some {H : Hp} {p : Addr} {n : Nat} (h : Pu H p n) : ∃ o, H p = some o := by
  obtain ⟨x, y, z, e, r⟩ := h
  exact ⟨_, e⟩
theorem Pu.ne {H : Hp} {p a : Addr} {n : Nat} (h : Pu H p n) (e : H a = none) : a ≠ p := fun z => by
  obtain ⟨o, h⟩ := h.some
  rw [z, h] at e
  cases e
end Qb
end PySem
namespace PySem
namespace Qb
open PySem.W PySem.Calls PyProof.Rows L2
/-- what is handed back: an error with an own copy of the pattern -/
def Rk (K : Frag) (C : Addr) (d : PyData) (H : Hp) (Q : VK) : Prop := ∀ (H' : Hp) (e : Addr) (u : V) (S : List Addr), Same H H' → ErrV H' e C u → Ow K H' u d S → (∀ b ∈ S, H b = none) → Q (.ref e) H'
def spA1 (K : Frag) (C : Addr) : Sp := fun vs H Q _ => ∃ (w : Int) (v : V) (ps : List Pd), vs = [.int w, v] ∧ Dp K H v (patD ps) ∧ finePs ps ∧ okPs ps = false ∧ Rk K C (patD ps) H Q
def spA2 (K : Frag) (C : Addr) : Sp := fun vs H Q _ => ∃ (w : Int) (v u : V) (ps qs : List Pd), vs = [.int w, v, u] ∧ Dp K H v (patD ps) ∧ Dp K H u (patD qs) ∧ finePs ps ∧ finePs qs ∧ ∃ bad, FB [ps, qs] bad ∧ Rk K C (patD bad) H Q
def spA3 (K : Frag) (C : Addr) : Sp := fun vs H Q _ => ∃ (w : Int) (v : V) (arms : List (List (List Pd))), vs = [.int w, v] ∧ Dp K H v (armsD arms) ∧ fineAll arms.flatten ∧ arms.length ≤ 100 ∧ ∃ bad, FB arms.flatten bad ∧ Rk K C (patD bad) H Q
def spRf (K : Frag) (C : Addr) : Sp := fun vs H Q _ => ∃ (e : Addr) (due pas u : V) (d dp : PyData) (S T : List Addr) (Hk : Hp), vs = [.ref e, due, pas] ∧ ErrV H e C u ∧ Ow K H u d T ∧ Ow K H pas dp S ∧ (∀ b ∈ T, b ∉ S) ∧ Same Hk H ∧ (∀ b ∈ S, Hk b = none) ∧ Dp K Hk due d ∧ Pl 5 d ∧ Pl 6 dp ∧ ∀ H', But S H H' → Q (.bl true) H'
/-- the law's clause takes what a refusal leaves -/
theorem rz_keep {K : Frag} {mg : Str → Option Value} {fI CP CS : Addr} {mP mS : List Value} (TP : EC K mg fI "InvalidPattern" CP mP) (TE : EC K mg fI "ShellError" CS mS) (hPS : (Value.ref CP :: mP).contains (.ref CS) = true) {d : PyData} {H : Hp} {i : Nat} {ts : Addr → Value → Option Addr → TS} {D : Ends} {σ : L2.St}
    (q : ∀ (H' : Hp) (e : Addr) (u : V) (S : List Addr) (dx : Addr), Same H H' → ErrV H' e CP u → Ow K H' u d S → (∀ b ∈ S, H b = none) → ts e (.ref CP) (some dx) { nx := fun σ' H' => D.nx (σ'.set i none) H', rt := D.rt, bk := fun σ' H' => D.bk (σ'.set i none) H', ct := fun σ' H' => D.ct (σ'.set i none) H' } (σ.set i (some (.ref e))) H') :
    Rz K CP d H (WE (wKeep K (.ref CS) i ts D) σ) := fun H' dx u S s hx hu nS => ⟨TP.takes TE hPS, fun e ne => q _ e u S dx (s.trans (same_upd ne)) ⟨dx, upd_same, same_upd ne _ _ hx⟩ (ow_same (same_upd ne) hu) nS⟩
section
variable {P : Program} {w : World} {K : Frag} {mg : Str → Option Value} {base : Heap} {CP : Addr}
abbrev sAo : Stmt := top 47
abbrev nAo : List Str := ["_law_way", "_law_row_here", "_law_caught", "e"]
theorem scAo : FnScope nAo ["_law_way", "_law_row_here"] (defScope sAo) := ⟨rfl, rfl, rfl, by decide +kernel, rfl, by decide +kernel, by decide +kernel⟩
theorem has_Ao {f : Addr} {fd : FuncData} {fI : Addr} (EGi : EG K fI) {CS : Addr} {mS : List Value} (TS : EC K mg fI "ShellError" CS mS) {mP : List Value} (TP : EC K mg fI "InvalidPattern" CP mP) (hPS : (Value.ref CP :: mP).contains (.ref CS) = true) (F : Fun K "_law_asked_one" "_law_asked_one" sAo f fd) (g : mg "_law_asked_one" = some (.ref f)) (B : Blt mg) (hMe : HasX P w K mg base 10 "meets" ["pattern", "text"] (spD2 K CP)) (hHe : HasX P w K mg base 10 "heads" ["pattern", "text"] (spD2 K CP)) (hTa : HasX P w K mg base 10 "tails" ["pattern", "text"] (spD2 K CP)) (hLt : HasX P w K mg base 10 "least_text" ["pattern"] (spD1 K CP)) (hSh : HasX P w K mg base 10 "shown_least" ["pattern"] (spD1 K CP)) :
    Has P w K mg base 11 "_law_asked_one" ["_law_way", "_law_row_here"] (spA1 K CP) := by
  obtain ⟨fMe, dMe, gMe, kMe, bMe, GMe⟩ := hMe
  obtain ⟨fHe, dHe, gHe, kHe, bHe, GHe⟩ := hHe
  obtain ⟨fTa, dTa, gTa, kTa, bTa, GTa⟩ := hTa
  obtain ⟨fLt, dLt, gLt, kLt, bLt, GLt⟩ := hLt
  obtain ⟨fSh, dSh, gSh, kSh, bSh, GSh⟩ := hSh
  refine has_of F g (F.binds (ps := ["_law_way", "_law_row_here"]) fun _ _ _ _ _ _ us hl => match us, hl with | [_, _], _ => rfl) (F.ok scAo (fun vs H Q E h => ?_) (fun cdv A outer s H vs Q E hr h => ?_))
  · obtain ⟨w, v, ps, rfl, _⟩ := h
    rfl
  · refine ⟨_, (pss_cons (ps_set (i := 2) scAo.nd rfl (.inl rfl) pe_non)
        (pss_cons (ps_try_keep (i := 3) rfl rfl rfl scAo.nd rfl rfl ⟨rfl, by decide, .inl TS.gC⟩
          (fun W pn xe tk _ => (pss_one (ps_if (pt_cmpR op_eq (pv 0) pe_int (nomark _)) (pss_one (ps_expr (pe_callS GMe hr rfl gMe kMe bMe (fun σ => passAt tk σ) (by exact (pa_cons (pv 1) (pa_cons pe_str pa_nil)))))) (pss_one (ps_if (pt_cmpR op_eq (pv 0) pe_int (nomark _)) (pss_one (ps_expr (pe_callS GHe hr rfl gHe kHe bHe (fun σ => passAt tk σ) (by exact (pa_cons (pv 1) (pa_cons pe_str pa_nil)))))) (pss_one (ps_if (pt_cmpR op_eq (pv 0) pe_int (nomark _)) (pss_one (ps_expr (pe_callS GTa hr rfl gTa kTa bTa (fun σ => passAt tk σ) (by exact (pa_cons (pv 1) (pa_cons pe_str pa_nil)))))) (pss_one (ps_if (pt_cmpR op_eq (pv 0) pe_int (nomark _)) (pss_one (ps_expr (pe_callS GLt hr rfl gLt kLt bLt (fun σ => passAt tk σ) (by exact (pa_cons (pv 1) pa_nil))))) (pss_one (ps_expr (pe_callS GSh hr rfl gSh kSh bSh (fun σ => passAt tk σ) (by exact (pa_cons (pv 1) pa_nil))))))))))))))
          (fun a cls d pn => (pss_one (ps_set (i := 2) scAo.nd rfl (.inl rfl) (pv 3)))))
        (pss_one (ps_ret (pv 2))))), ?_⟩
    obtain ⟨w, v, ps, rfl, hd, hf, hbad, rk⟩ := h
    have fin : ∀ {D : Ends} {x : Option V}, (∀ e H', Same H H' → Q (.ref e) H' → D.nx [some (.int w), some v, some (.ref e), none] H') → Rz K CP (patD ps) H (WE (wKeep K (.ref CS) 3 (fun a cls d => tAsg (tVar 3) (gName 2)) D) [some (.int w), some v, some .non, x]) := fun {D x} k => rz_keep TP TS hPS fun H' e u S dx s he hu nS => ⟨_, rfl, k e H' s (rk H' e u S s he hu nS)⟩
    have last : ∀ (e : Addr) (H' : Hp), Same H H' → Q (.ref e) H' → tRet (tVar 2) { nx := fun _ H' => Q .non H', rt := Q } [some (.int w), some v, some (.ref e), none] H' := fun e H' s q => ⟨_, rfl, q⟩
    refine ⟨_, rfl, rfl, _, rfl, if_by (fun _ => ⟨_, rfl, v, _, ps, rfl, hd, hf, hbad, fin last⟩) (fun _ => ?_)⟩
    refine ⟨_, rfl, rfl, _, rfl, if_by (fun _ => ⟨_, rfl, v, _, ps, rfl, hd, hf, hbad, fin last⟩) (fun _ => ?_)⟩
    refine ⟨_, rfl, rfl, _, rfl, if_by (fun _ => ⟨_, rfl, v, _, ps, rfl, hd, hf, hbad, fin last⟩) (fun _ => ?_)⟩
    exact ⟨_, rfl, rfl, _, rfl, if_by (fun _ => ⟨_, rfl, v, ps, rfl, hd, hf, hbad, fin last⟩) (fun _ => ⟨_, rfl, v, ps, rfl, hd, hf, hbad, fin last⟩)⟩
abbrev sAt : Stmt := top 48
abbrev nAt : List Str := ["_law_way", "_law_left", "_law_right", "_law_caught", "e"]
theorem scAt : FnScope nAt ["_law_way", "_law_left", "_law_right"] (defScope sAt) := ⟨rfl, rfl, rfl, by decide +kernel, rfl, by decide +kernel, by decide +kernel⟩
theorem has_At {f : Addr} {fd : FuncData} {fI : Addr} (EGi : EG K fI) {CS : Addr} {mS : List Value} (TS : EC K mg fI "ShellError" CS mS) {mP : List Value} (TP : EC K mg fI "InvalidPattern" CP mP) (hPS : (Value.ref CP :: mP).contains (.ref CS) = true) (F : Fun K "_law_asked_two" "_law_asked_two" sAt f fd) (g : mg "_law_asked_two" = some (.ref f)) (B : Blt mg) (hSa : HasX P w K mg base 11 "same" ["one", "other"] (spDD K CP)) (hWi : HasX P w K mg base 10 "within" ["one", "other"] (spDD K CP)) (hFa : HasX P w K mg base 10 "first_apart" ["one", "other"] (spDD K CP)) (hCm : HasX P w K mg base 10 "common" ["one", "other"] (spDD K CP)) :
    Has P w K mg base 12 "_law_asked_two" ["_law_way", "_law_left", "_law_right"] (spA2 K CP) := by
  obtain ⟨fSa, dSa, gSa, kSa, bSa, GSa⟩ := hSa
  obtain ⟨fWi, dWi, gWi, kWi, bWi, GWi⟩ := hWi
  obtain ⟨fFa, dFa, gFa, kFa, bFa, GFa⟩ := hFa
  obtain ⟨fCm, dCm, gCm, kCm, bCm, GCm⟩ := hCm
  refine has_of F g (F.binds (ps := ["_law_way", "_law_left", "_law_right"]) fun _ _ _ _ _ _ us hl => match us, hl with | [_, _, _], _ => rfl) (F.ok scAt (fun vs H Q E h => ?_) (fun cdv A outer s H vs Q E hr h => ?_))
  · obtain ⟨w, v, u, ps, qs, rfl, _⟩ := h
    rfl
  · refine ⟨_, (pss_cons (ps_set (i := 3) scAt.nd rfl (.inl rfl) pe_non)
        (pss_cons (ps_try_keep (i := 4) rfl rfl rfl scAt.nd rfl rfl ⟨rfl, by decide, .inl TS.gC⟩
          (fun W pn xe tk _ => (pss_one (ps_if (pt_cmpR op_eq (pv 0) pe_int (nomark _)) (pss_one (ps_expr (pe_callS GSa hr rfl gSa kSa bSa (fun σ => passAt tk σ) (by exact (pa_cons (pv 1) (pa_cons (pv 2) pa_nil)))))) (pss_one (ps_if (pt_cmpR op_eq (pv 0) pe_int (nomark _)) (pss_one (ps_expr (pe_callS GWi (hr.mono (by decide)) rfl gWi kWi bWi (fun σ => passAt tk σ) (by exact (pa_cons (pv 1) (pa_cons (pv 2) pa_nil)))))) (pss_one (ps_if (pt_cmpR op_eq (pv 0) pe_int (nomark _)) (pss_one (ps_expr (pe_callS GFa (hr.mono (by decide)) rfl gFa kFa bFa (fun σ => passAt tk σ) (by exact (pa_cons (pv 1) (pa_cons (pv 2) pa_nil)))))) (pss_one (ps_expr (pe_callS GCm (hr.mono (by decide)) rfl gCm kCm bCm (fun σ => passAt tk σ) (by exact (pa_cons (pv 1) (pa_cons (pv 2) pa_nil)))))))))))))
          (fun a cls d pn => (pss_one (ps_set (i := 3) scAt.nd rfl (.inl rfl) (pv 4)))))
        (pss_one (ps_ret (pv 3))))), ?_⟩
    obtain ⟨w, v, u, ps, qs, rfl, hd, he, hf, hg, bad, fb, rk⟩ := h
    have fin : ∀ {D : Ends} {x : Option V}, (∀ e H', Same H H' → Q (.ref e) H' → D.nx [some (.int w), some v, some u, some (.ref e), none] H') → Rz K CP (patD bad) H (WE (wKeep K (.ref CS) 4 (fun a cls d => tAsg (tVar 4) (gName 3)) D) [some (.int w), some v, some u, some .non, x]) := fun {D x} k => rz_keep TP TS hPS fun H' e u S dx s he hu nS => ⟨_, rfl, k e H' s (rk H' e u S s he hu nS)⟩
    have last : ∀ (e : Addr) (H' : Hp), Same H H' → Q (.ref e) H' → tRet (tVar 3) { nx := fun _ H' => Q .non H', rt := Q } [some (.int w), some v, some u, some (.ref e), none] H' := fun e H' s q => ⟨_, rfl, q⟩
    refine ⟨_, rfl, rfl, _, rfl, if_by (fun _ => ⟨_, rfl, _, rfl, v, u, ps, qs, rfl, hd, he, hf, hg, bad, fb, fin last⟩) (fun _ => ?_)⟩
    refine ⟨_, rfl, rfl, _, rfl, if_by (fun _ => ⟨_, rfl, _, rfl, v, u, ps, qs, rfl, hd, he, hf, hg, bad, fb, fin last⟩) (fun _ => ?_)⟩
    exact ⟨_, rfl, rfl, _, rfl, if_by (fun _ => ⟨_, rfl, _, rfl, v, u, ps, qs, rfl, hd, he, hf, hg, bad, fb, fin last⟩) (fun _ => ⟨_, rfl, _, rfl, v, u, ps, qs, rfl, hd, he, hf, hg, bad, fb, fin last⟩)⟩
abbrev sAa : Stmt := top 49
abbrev nAa : List Str := ["_law_way", "_law_cases", "_law_caught", "e"]
theorem scAa : FnScope nAa ["_law_way", "_law_cases"] (defScope sAa) := ⟨rfl, rfl, rfl, by decide +kernel, rfl, by decide +kernel, by decide +kernel⟩
theorem has_Aa {f : Addr} {fd : FuncData} {fI : Addr} (EGi : EG K fI) {CS : Addr} {mS : List Value} (TS : EC K mg fI "ShellError" CS mS) {mP : List Value} (TP : EC K mg fI "InvalidPattern" CP mP) (hPS : (Value.ref CP :: mP).contains (.ref CS) = true) (F : Fun K "_law_asked_arms" "_law_asked_arms" sAa f fd) (g : mg "_law_asked_arms" = some (.ref f)) (B : Blt mg) (hNm : HasX P w K mg base 10 "never_met" ["arms"] (spDA K CP)) (hUm : HasX P w K mg base 10 "unmet" ["arms"] (spDA K CP)) :
    Has P w K mg base 11 "_law_asked_arms" ["_law_way", "_law_cases"] (spA3 K CP) := by
  obtain ⟨fNm, dNm, gNm, kNm, bNm, GNm⟩ := hNm
  obtain ⟨fUm, dUm, gUm, kUm, bUm, GUm⟩ := hUm
  refine has_of F g (F.binds (ps := ["_law_way", "_law_cases"]) fun _ _ _ _ _ _ us hl => match us, hl with | [_, _], _ => rfl) (F.ok scAa (fun vs H Q E h => ?_) (fun cdv A outer s H vs Q E hr h => ?_))
  · obtain ⟨w, v, as, rfl, _⟩ := h
    rfl
  · refine ⟨_, (pss_cons (ps_set (i := 2) scAa.nd rfl (.inl rfl) pe_non)
        (pss_cons (ps_try_keep (i := 3) rfl rfl rfl scAa.nd rfl rfl ⟨rfl, by decide, .inl TS.gC⟩
          (fun W pn xe tk _ => (pss_one (ps_if (pt_cmpR op_eq (pv 0) pe_int (nomark _)) (pss_one (ps_expr (pe_callS GNm hr rfl gNm kNm bNm (fun σ => passAt tk σ) (by exact (pa_cons (pv 1) pa_nil))))) (pss_one (ps_expr (pe_callS GUm hr rfl gUm kUm bUm (fun σ => passAt tk σ) (by exact (pa_cons (pv 1) pa_nil))))))))
          (fun a cls d pn => (pss_one (ps_set (i := 2) scAa.nd rfl (.inl rfl) (pv 3)))))
        (pss_one (ps_ret (pv 2))))), ?_⟩
    obtain ⟨w, v, arms, rfl, hd, hf, la, bad, fb, rk⟩ := h
    have fin : ∀ {D : Ends} {x : Option V}, (∀ e H', Same H H' → Q (.ref e) H' → D.nx [some (.int w), some v, some (.ref e), none] H') → Rz K CP (patD bad) H (WE (wKeep K (.ref CS) 3 (fun a cls d => tAsg (tVar 3) (gName 2)) D) [some (.int w), some v, some .non, x]) := fun {D x} k => rz_keep TP TS hPS fun H' e u S dx s he hu nS => ⟨_, rfl, k e H' s (rk H' e u S s he hu nS)⟩
    have last : ∀ (e : Addr) (H' : Hp), Same H H' → Q (.ref e) H' → tRet (tVar 2) { nx := fun _ H' => Q .non H', rt := Q } [some (.int w), some v, some (.ref e), none] H' := fun e H' s q => ⟨_, rfl, q⟩
    exact ⟨_, rfl, rfl, _, rfl, if_by (fun _ => ⟨_, rfl, v, arms, rfl, hd, hf, la, bad, fb, fin last⟩) (fun _ => ⟨_, rfl, v, arms, rfl, hd, hf, la, bad, fb, fin last⟩)⟩
abbrev sRf : Stmt := top 50
abbrev nRf : List Str := ["_law_caught", "_law_due", "_law_passed", "_law_kept"]
theorem scRf : FnScope nRf ["_law_caught", "_law_due", "_law_passed"] (defScope sRf) := ⟨rfl, rfl, rfl, by decide +kernel, rfl, by decide +kernel, by decide +kernel⟩
theorem has_Rf {f : Addr} {fd : FuncData} {fI : Addr} (EGi : EG K fI) {mP : List Value} (TP : EC K mg fI "InvalidPattern" CP mP) {CT : Addr} {mT : List Value} (TT : EC K mg fI "InvalidTree" CT mT) (hPT : (Value.ref CP :: mP).contains (.ref CT) = false) (F : Fun K "_law_is_refusal" "_law_is_refusal" sRf f fd) (g : mg "_law_is_refusal" = some (.ref f)) (B : Blt mg) (hSm : Has P w K mg base 7 "_law_same" ["_law_found", "_law_due"] (spSm K 6)) (hSl : Has P w K mg base 8 "_law_spoil" ["_law_thing"] (spSl K 7)) :
    Has P w K mg base 9 "_law_is_refusal" ["_law_caught", "_law_due", "_law_passed"] (spRf K CP) := by
  obtain ⟨fSm, dSm, gSm, kSm, bSm, GSm⟩ := hSm
  obtain ⟨fSl, dSl, gSl, kSl, bSl, GSl⟩ := hSl
  refine has_of F g (F.binds (ps := ["_law_caught", "_law_due", "_law_passed"]) fun _ _ _ _ _ _ us hl => match us, hl with | [_, _, _], _ => rfl) (F.ok scRf (fun vs H Q E h => ?_) (fun cdv A outer s H vs Q E hr h => ?_))
  · obtain ⟨e, due, pas, u, d, dp, S, T, Hk, rfl, _⟩ := h
    rfl
  · refine ⟨_, (pss_cons (ps_if (PW.pt (pw_or (pt_not (pt_val (pe_callB (call_isErrW EGi) (by rfl) B.isi (by decide +kernel) (pa_cons (pv 0) (pa_cons (pe_glob (v := .ref CP) (by rfl) TP.gC rfl) pa_nil))))) (pw_or (pt_not (pt_val (pe_callB (call_isErrW EGi) (by rfl) B.isi (by decide +kernel) (pa_cons (pv 0) (pa_cons (pe_bltn (v := .ty "ValueError") (by rfl) B.ve (by decide +kernel) rfl) pa_nil))))) (pw_or1 (pt_val (pe_callB (call_isErrW EGi) (by rfl) B.isi (by decide +kernel) (pa_cons (pv 0) (pa_cons (pe_glob (v := .ref CT) (by rfl) TT.gC rfl) pa_nil)))))))) (pss_one (ps_ret pe_bl)) pss_nil)
        (pss_cons (ps_set (i := 3) scRf.nd rfl (.inl rfl) (pe_errw (fI := fI) (pv 0)))
        (pss_cons (ps_if (pt_not (pt_val (pe_call GSm (hr.mono (by decide)) rfl gSm kSm bSm .nil pass0 (pa_cons (pv 3) (pa_cons (pv 1) pa_nil))))) (pss_one (ps_ret pe_bl)) pss_nil)
        (pss_cons (ps_expr (pe_call GSl hr rfl gSl kSl bSl .nil pass0 (pa_cons (pv 2) pa_nil)))
        (pss_one (ps_ret (pe_call GSm (hr.mono (by decide)) rfl gSm kSm bSm .nil pass0 (pa_cons (pv 3) (pa_cons (pv 1) pa_nil))))))))), ?_⟩
    obtain ⟨e, due, pas, u, d, dp, S, T, Hk, rfl, he, hu, hp, dj, sk, nS, hd, pd, pp, k⟩ := h
    have k1 : kitOne K (.ref CP) (.ref CP) = some true := by
      rw [TP.one TP]
      simp
    have k2 : kitOne K (.ref CP) (.ref CT) = some false := by rw [TP.one TT, hPT]
    refine ⟨_, rfl, e, CP, u, .ref CP, .ref CP, true, _, mP, rfl, .own CP, TP, he, k1, _, rfl, if_no rfl ?_⟩
    refine ⟨_, rfl, e, CP, u, .ty "ValueError", .type "ValueError", true, _, mP, rfl, .ty _, TP, he, TP.oneT, _, rfl, if_no rfl ?_⟩
    refine ⟨_, rfl, e, CP, u, .ref CT, .ref CT, false, _, mP, rfl, .own CT, TP, he, k2, _, rfl, if_no rfl ?_⟩
    refine ⟨_, rfl, e, CP, u, _, mP, rfl, TP, he, ?_⟩
    refine ⟨_, rfl, _, rfl, u, due, d, rfl, ow_dp hu, dp_same sk hd, pd, fun H1 s1 => ⟨_, rfl, if_no rfl ?_⟩⟩
    refine ⟨_, rfl, pas, dp, S, rfl, ow_same s1 hp, pp, fun H2 b2 l2 => ?_⟩
    have l1 : Lis S H1 := ow_lis (ow_same s1 hp)
    refine ⟨_, rfl, _, rfl, u, due, d, rfl, ow_dp (ow_frame b2 l1 (ow_same s1 hu) dj), dp_same (H := Hk) (fun b o h => b2 b o (s1 _ _ (sk _ _ h)) fun z => by rw [nS b z] at h; cases h) hd, pd, fun H3 s3 => k _ fun b o h n => s3 _ _ (b2 b o (s1 _ _ h) n)⟩
end
end Qb
end PySem
namespace PySem
namespace Qb
open PySem.W PySem.Calls PyProof.Rows L2
theorem sgn_at {i : Nat} (h : i < 95) : ∃ c, c ∈ cs signsS ∧ (cs signsS)[i]? = some c := by
  obtain ⟨c, m, e⟩ := pick_cs signsS (r := i) (by rw [show signsS.length = 95 by decide +kernel]; exact h)
  exact ⟨c, m, e⟩
theorem sgn_asc : (cs signsS).Pairwise (· < ·) := by decide +kernel
theorem sgn_le {i j a b : Nat} (h : i ≤ j) (ha : (cs signsS)[i]? = some a) (hb : (cs signsS)[j]? = some b) : a ≤ b := by
  obtain ⟨l1, rfl⟩ := List.getElem?_eq_some_iff.mp ha
  obtain ⟨l2, rfl⟩ := List.getElem?_eq_some_iff.mp hb
  rcases Nat.lt_or_ge i j with z | z
  · exact Nat.le_of_lt (List.pairwise_iff_getElem.mp sgn_asc i j l1 l2 z)
  · obtain rfl : i = j := by omega
    exact Nat.le_refl _
theorem pick_n (ws : List Nat) {r : Nat} (h : r < ws.length) : ∃ x ∈ ws, (ws.map fun n : Nat => V.int ((n : Nat) : Int))[r]? = some (V.int ((x : Nat) : Int)) := ⟨ws[r], List.getElem_mem h, by rw [List.getElem?_map, List.getElem?_eq_getElem h]; rfl⟩
/-- a pair of texts goes into a list that is being made -/
def spSi : Sp := fun vs H Q _ => ∃ (p : Addr) (n : Nat), vs = [.ref p] ∧ n ≤ 9000 ∧ Pu H p n ∧ ∀ (H' : Hp) (c : Nat), c ∈ cs signsS → Pu H' p (n + 2) → Same (hide H p) (hide H' p) → Q (.str (sg c)) H'
abbrev wAb : List Str := ["abc", "ab-"]
theorem wAb_ok : ∀ m ∈ wAb, m.length = 3 ∧ ∀ c ∈ cs m, c ∈ cs signsS := by decide +kernel
/-! # drawn things: only the purse at p changes -/
theorem but_hide {H H' : Hp} {p : Addr} (s : Same (hide H p) (hide H' p)) : But [p] H H' := fun b u e n => by
  have ne : b ≠ p := fun z => n (by rw [z]; exact .head _)
  have z := s b u (hide_ne e ne)
  exact hide_same _ _ z
theorem but_off {H H' : Hp} {p : Addr} (off : ∀ b, b ≠ p → H' b = H b) : But [p] H H' := fun b u e n => by
  rw [off b fun z => n (by rw [z]; exact .head _)]
  exact e
theorem Pu.lis {H : Hp} {p : Addr} {n : Nat} (h : Pu H p n) : Lis [p] H := fun b m => by
  rcases List.mem_singleton.mp m with rfl
  obtain ⟨a, b, c, e, _⟩ := h
  exact ⟨_, e⟩
def OwP (K : Frag) (p : Addr) (H H' : Hp) (D : Addr) (ds : List PyData) : Prop := H D = none ∧ D ≠ p ∧ But [p] H H' ∧ ∃ ys S, H' D = some (.lst ys) ∧ OwAll K H' ys ds S ∧ (∀ b ∈ S, H b = none) ∧ D ∉ S ∧ p ∉ S
theorem OwP.new {K : Frag} {p D : Addr} {H : Hp} (n : H D = none) (ne : D ≠ p) : OwP K p H (L2.upd H D (.lst [])) D [] := ⟨n, ne, But.of (same_upd n) _, [], [], upd_same, .nil, (fun b m => by cases m), (fun m => by cases m), (fun m => by cases m)⟩
theorem OwP.draw {K : Frag} {p D : Addr} {H H1 H2 : Hp} {ds : List PyData} (b : OwP K p H H1 D ds) (f : But [p] H1 H2) (l : Lis [p] H1) : OwP K p H H2 D ds := by
  obtain ⟨n, ne, b0, ys, S, h, al, nS, nD, nP⟩ := b
  refine ⟨n, ne, b0.trans f, ys, S, f _ _ h (fun m => ne (List.mem_singleton.mp m)), owAll_frame f l al (fun b m z => nP ?_), nS, nD, nP⟩
  rcases List.mem_singleton.mp z with rfl
  exact m
theorem OwP.same {K : Frag} {p D : Addr} {H H1 H2 : Hp} {ds : List PyData} (b : OwP K p H H1 D ds) (s : Same H1 H2) : OwP K p H H2 D ds := by
  obtain ⟨n, ne, b0, ys, S, h, al, nS, nD, nP⟩ := b
  exact ⟨n, ne, b0.trans (But.of s _), ys, S, s _ _ h, owAll_same s al, nS, nD, nP⟩
theorem OwP.put {K : Frag} {p D : Addr} {H H0 H1 : Hp} {ds : List PyData} (b : OwP K p H H0 D ds) (f : But [p] H0 H1) (l : Lis [p] H0) : ∃ ys, H1 D = some (.lst ys) ∧ ys.length = ds.length ∧ ∀ v d T, Ow K H1 v d T → (∀ b ∈ T, H0 b = none) → OwP K p H (L2.upd H1 D (.lst (ys ++ [v]))) D (ds ++ [d]) := by
  obtain ⟨n, ne, bb, ys0, S, h0, al0, nS, nD, nP⟩ := b
  have b0 := bb.trans f
  have h : H1 D = some (.lst ys0) := f _ _ h0 (fun m => ne (List.mem_singleton.mp m))
  have al : OwAll K H1 ys0 _ S := owAll_frame f l al0 (fun b m z => nP (by rcases List.mem_singleton.mp z with rfl; exact m))
  refine ⟨ys0, h, dpLen (owAll_dp al), fun v d T hv nT => ?_⟩
  obtain ⟨xp, hp⟩ := l p (.head _)
  have pT : p ∉ T := fun m => by
    have z := nT p m
    rw [hp] at z
    cases z
  have dT : D ∉ T := fun m => by
    have z := nT D m
    rw [h0] at z
    cases z
  have dj : ∀ b ∈ S, b ∉ T := fun b m z => by
    obtain ⟨xs, e⟩ := owAll_lis al0 b m
    rw [nT b z] at e
    cases e
  obtain ⟨U, hU, eU⟩ := owAll_add al hv dj
  have nU : D ∉ U := fun z => ((eU D).mp z).elim nD dT
  refine ⟨n, ne, fun b u e m => ?_, _, U, upd_same, owAll_frame (S := [D]) But.put (fun b m => ?_) hU (fun b mb z => ?_), fun b mb => ?_, nU, fun z => ((eU p).mp z).elim nP pT⟩
  · have nb : b ≠ D := fun z => by rw [z, n] at e; cases e
    rw [upd_ne nb]
    exact b0 b u e m
  · rcases List.mem_singleton.mp m with rfl
    exact ⟨_, h⟩
  · rcases List.mem_singleton.mp z with rfl
    exact nU mb
  · rcases (eU b).mp mb with mb | mb
    · exact nS b mb
    · cases e : H b with
      | none => rfl
      | some u =>
        have z := bb b u e fun m => pT (by rcases List.mem_singleton.mp m with rfl; exact mb)
        rw [nT b mb] at z
        cases z
theorem OwP.ends {K : Frag} {p D : Addr} {H H1 : Hp} {ds : List PyData} (b : OwP K p H H1 D ds) : ∃ S, Ow K H1 (.ref D) (.list ds) S ∧ (∀ b ∈ S, H b = none) ∧ But [p] H H1 := by
  obtain ⟨n, ne, b0, ys, S, h, al, nS, nD, nP⟩ := b
  refine ⟨D :: S, .lst h al nD, fun b m => ?_, b0⟩
  rcases List.mem_cons.mp m with rfl | m
  · exact n
  · exact nS b m
end Qb
end PySem
namespace PySem
namespace Qb
open PySem.W PySem.Calls PyProof.Rows L2
def goodR (r : List Str) : Prop := rgB r = true ∧ r.length ≤ 3 ∧ ∀ x ∈ r, okTx x
def spRa (K : Frag) : Sp := fun vs H Q _ => ∃ (p : Addr) (n : Nat), vs = [.ref p] ∧ n ≤ 9000 ∧ Pu H p n ∧ ∀ (H' : Hp) (v : V) (rs : List (List Str)) (S : List Addr), But [p] H H' → Ow K H' v (rrD rs) S → (∀ b ∈ S, H b = none) → rs ≠ [] → rs.length ≤ 8 → (∀ r ∈ rs, goodR r) → Pu H' p (n + 40) → Q v H'
/-- a drawn thing, good or not -/
def spDr (K : Frag) (m : Nat) (c : Bool) : Sp := fun vs H Q _ => ∃ (p : Addr) (n : Nat), vs = [.ref p] ∧ n ≤ 8000 ∧ Pu H p n ∧ ∀ (H' : Hp) (v : V) (q : Pd) (S : List Addr), But [p] H H' → Ow K H' v q.d S → (∀ b ∈ S, H b = none) → q.fine → q.ok = c → Pu H' p (n + m) → Q v H'
abbrev spEn (K : Frag) : Sp := spDr K 50 true
abbrev spOd (K : Frag) : Sp := spDr K 60 false
theorem sg_tx {c : Nat} (h : c ∈ cs signsS) : okTx (sg c) := by
  have : ∀ c ∈ cs signsS, PyData.strOk (sg c) = true := by decide +kernel
  exact ⟨(by decide : 1 ≤ 9), this c h⟩
theorem good_sg {a b : Nat} (ha : a ∈ cs signsS) (hb : b ∈ cs signsS) (l : a ≤ b) : goodR [sg a, sg b] := by
  refine ⟨?_, (by decide : 2 ≤ 3), fun x m => ?_⟩
  · rw [rgB_two, sgB_sg, sgB_sg, decide_eq_true ha, decide_eq_true hb]
    have : decide ((sg b).cps.toList < (sg a).cps.toList) = false := decide_eq_false fun z => by
      have z' : ([b] : List Nat) < [a] := z
      cases z' with
      | rel h => omega
      | cons h => cases h
    rw [this]
    rfl
  · rcases List.mem_cons.mp m with rfl | m
    · exact sg_tx ha
    · rcases List.mem_singleton.mp m with rfl
      exact sg_tx hb
theorem fine_rs {rs : List (List Str)} (l : rs.length ≤ 10) (h : ∀ r ∈ rs, goodR r) : fineR rs := ⟨l, fun r m => (h r m).2⟩
section
variable {P : Program} {w : World} {K : Frag} {mg : Str → Option Value} {base : Heap}
abbrev sSi : Stmt := top 41
abbrev nSi : List Str := ["_law_purse_here", "_law_way"]
theorem scSi : FnScope nSi ["_law_purse_here"] (defScope sSi) := ⟨rfl, rfl, rfl, by decide +kernel, rfl, by decide +kernel, by decide +kernel⟩
theorem has_Si {f : Addr} {fd : FuncData} (F : Fun K "_law_sign" "_law_sign" sSi f fd) (g : mg "_law_sign" = some (.ref f)) (B : Blt mg) (hCo : Has P w K mg base 1 "_law_coin" ["_law_purse_here", "_law_many"] spCo) (hAl : Has P w K mg base 1 "_law_signs" [] spAl) :
    Has P w K mg base 2 "_law_sign" ["_law_purse_here"] spSi := by
  obtain ⟨fCo, dCo, gCo, kCo, bCo, GCo⟩ := hCo
  obtain ⟨fAl, dAl, gAl, kAl, bAl, GAl⟩ := hAl
  refine has_of F g (F.binds (ps := ["_law_purse_here"]) fun _ _ _ _ _ _ us hl => match us, hl with | [_], _ => rfl) (F.ok scSi (fun vs H Q E h => ?_) (fun cdv A outer s H vs Q E hr h => ?_))
  · obtain ⟨p, n, rfl, _⟩ := h
    rfl
  · refine ⟨_, (pss_cons (ps_set (i := 1) scSi.nd rfl (.inl rfl) (pe_call GCo hr rfl gCo kCo bCo .nil pass0 (pa_cons (pv 0) (pa_cons pe_int pa_nil))))
        (pss_cons (ps_if (pt_cmpR op_lt (pv 1) pe_int (nomark _)) (pss_one (ps_ret (pe_ix ix_str (pe_ix ix_list (pe_lst (pa_cons pe_str (pa_cons pe_str pa_nil))) (pv 1) (fun _ _ => rfl)) (pe_call GCo hr rfl gCo kCo bCo .nil pass0 (pa_cons (pv 0) (pa_cons pe_int pa_nil))) (fun _ _ => rfl)))) pss_nil)
        (pss_one (ps_ret (pe_ix ix_str (pe_call0 GAl hr rfl gAl kAl bAl .nil pass0) (pe_call GCo hr rfl gCo kCo bCo .nil pass0 (pa_cons (pv 0) (pa_cons pe_int pa_nil))) (fun _ _ => rfl)))))), ?_⟩
    obtain ⟨p, n, rfl, hn, hp, k⟩ := h
    refine ⟨_, rfl, p, 3, n, rfl, by decide, by decide, by omega, hp, fun H1 r hr3 hp1 off1 => ?_⟩
    have s1 := offs off1
    refine ⟨_, rfl, _, _, rfl, rfl, _, rfl, if_by (fun e => ?_) (fun e => ?_)⟩
    · have hr2 : r < 2 := by have := of_decide_eq_true e; omega
      refine ⟨(by decide : 2 ≤ sizeLine), fun L nL => ?_⟩
      have neL := hp1.ne nL
      obtain ⟨m, mm, hm⟩ := pick_of wAb (r := r) hr2
      obtain ⟨lm, om⟩ := wAb_ok m mm
      refine ⟨_, rfl, L, _, _, _, rfl, rfl, SqL.of upd_same, atI_nat hm, ?_⟩
      refine ⟨_, rfl, p, 3, _, rfl, by decide, by decide, by omega, hp1.put neL, fun H2 q hq3 hp2 off2 => ?_⟩
      obtain ⟨c, mc, hc⟩ := pick_cs m (r := q) (by rw [lm]; exact hq3)
      exact ⟨_, _, c, rfl, rfl, small_line (by rw [lm]; decide), atI_nat hc, k H2 c (om c mc) (hp2.le (by omega)) ((s1.trans (hide_mono (same_upd nL))).trans (offs off2))⟩
    · refine ⟨rfl, _, rfl, p, 95, _, rfl, by decide, by decide, by omega, hp1, fun H2 q hq3 hp2 off2 => ?_⟩
      obtain ⟨c, mc, hc⟩ := sgn_at hq3
      exact ⟨_, _, c, rfl, rfl, small_line (by decide +kernel), atI_nat hc, k H2 c mc (hp2.le (by omega)) (s1.trans (offs off2))⟩
abbrev sRa : Stmt := top 42
abbrev nRa : List Str := ["_law_purse_here", "_law_ranges_here", "_law_turn", "_law_low"]
theorem scRa : FnScope nRa ["_law_purse_here"] (defScope sRa) := ⟨rfl, rfl, rfl, by decide +kernel, rfl, by decide +kernel, by decide +kernel⟩
theorem has_Ra {f : Addr} {fd : FuncData}  (F : Fun K "_law_ranges" "_law_ranges" sRa f fd) (g : mg "_law_ranges" = some (.ref f)) (B : Blt mg) (hCo : Has P w K mg base 1 "_law_coin" ["_law_purse_here", "_law_many"] (spCo)) (hAl : Has P w K mg base 1 "_law_signs" [] (spAl)) :
    Has P w K mg base 2 "_law_ranges" ["_law_purse_here"] (spRa K) := by
  obtain ⟨fCo, dCo, gCo, kCo, bCo, GCo⟩ := hCo
  obtain ⟨fAl, dAl, gAl, kAl, bAl, GAl⟩ := hAl
  refine has_of F g (F.binds (ps := ["_law_purse_here"]) fun _ _ _ _ _ _ us hl => match us, hl with | [_], _ => rfl) (F.ok scRa (fun vs H Q E h => ?_) (fun cdv A outer s H vs Q E hr h => ?_))
  · obtain ⟨p, n, rfl, _⟩ := h
    rfl
  · refine ⟨_, (pss_cons (ps_set (i := 1) scRa.nd rfl (.inl rfl) (pe_lst pa_nil))
        (pss_cons (ps_for PassesOwn.never rfl (pi_range1 (by rfl) B.range (pa_cons (pe_op op_add pe_int (pe_call GCo hr rfl gCo kCo bCo .nil pass0 (pa_cons (pv 0) (pa_cons (pe_ix ix_list (pe_lst (pa_cons pe_int (pa_cons pe_int (pa_cons pe_int pa_nil)))) (pe_call GCo hr rfl gCo kCo bCo .nil pass0 (pa_cons (pv 0) (pa_cons pe_int pa_nil))) (fun _ _ => rfl)) pa_nil)))) pa_nil)) (pg_name (i := 2) scRa.nd rfl (.inl rfl))
          (pss_one (ps_if (pt_cmpR op_eq (pe_call GCo hr rfl gCo kCo bCo .nil pass0 (pa_cons (pv 0) (pa_cons pe_int pa_nil))) pe_int (nomark _)) (pss_cons (ps_set (i := 3) scRa.nd rfl (.inl rfl) (pe_op op_add pe_int (pe_call GCo hr rfl gCo kCo bCo .nil pass0 (pa_cons (pv 0) (pa_cons pe_int pa_nil)))))
            (pss_one (ps_expr (pe_bm PySem.F.plainAttrs_list PySem.F.slot_list_append PySem.F.type_list_append mt_append (pv 1) (pa_cons (pe_tup (pa_cons (pe_ix ix_str (pe_call0 GAl hr rfl gAl kAl bAl .nil pass0) (pv 3) (fun _ _ => rfl)) (pa_cons (pe_ix ix_str (pe_call0 GAl hr rfl gAl kAl bAl .nil pass0) (pe_op op_add (pv 3) (pe_call GCo hr rfl gCo kCo bCo .nil pass0 (pa_cons (pv 0) (pa_cons pe_int pa_nil)))) (fun _ _ => rfl)) pa_nil))) pa_nil))))) (pss_cons (ps_set (i := 3) scRa.nd rfl (.inl rfl) (pe_call GCo hr rfl gCo kCo bCo .nil pass0 (pa_cons (pv 0) (pa_cons pe_int pa_nil))))
            (pss_one (ps_expr (pe_bm PySem.F.plainAttrs_list PySem.F.slot_list_append PySem.F.type_list_append mt_append (pv 1) (pa_cons (pe_tup (pa_cons (pe_ix ix_str (pe_call0 GAl hr rfl gAl kAl bAl .nil pass0) (pv 3) (fun _ _ => rfl)) (pa_cons (pe_ix ix_str (pe_call0 GAl hr rfl gAl kAl bAl .nil pass0) (pe_op op_add (pv 3) (pe_call GCo hr rfl gCo kCo bCo .nil pass0 (pa_cons (pv 0) (pa_cons (pe_op op_sub pe_int (pv 3)) pa_nil)))) (fun _ _ => rfl)) pa_nil))) pa_nil))))))))
        (pss_one (ps_ret (pv 1))))), ?_⟩
    obtain ⟨p, n, rfl, hn, hp, k⟩ := h
    refine ⟨(by decide : 0 ≤ sizeLine), fun R nR => ?_⟩
    have ne := hp.ne nR
    have b0 : OwP K p H (L2.upd H R (.lst [])) R [] := OwP.new nR ne
    refine ⟨_, rfl, (by decide : 3 ≤ sizeLine), fun L nL => ?_⟩
    have neL := (hp.put (o := .lst []) ne).ne nL
    have b1 := b0.same (same_upd (o := .lst (([3, 3, 8] : List Nat).map fun n : Nat => V.int ((n : Nat) : Int))) nL)
    have hp0 := (hp.put (o := .lst []) ne).put (o := .lst (([3, 3, 8] : List Nat).map fun n : Nat => V.int ((n : Nat) : Int))) neL
    refine ⟨_, rfl, p, 3, n, rfl, by decide, by decide, by omega, hp0, fun H1 r hr3 hp1 off1 => ?_⟩
    have b2 := b1.draw (but_off off1) hp0.lis
    obtain ⟨m, mm, hm⟩ := pick_n [3, 3, 8] (r := r) hr3
    have hm8 : 0 < m ∧ m ≤ 8 := by
      have : ∀ m ∈ ([3, 3, 8] : List Nat), 0 < m ∧ m ≤ 8 := by decide
      exact this m mm
    have hL : H1 L = some (.lst (([3, 3, 8] : List Nat).map fun n : Nat => V.int ((n : Nat) : Int))) := by rw [off1 L neL]; exact upd_same
    refine ⟨L, _, _, _, rfl, rfl, SqL.of hL, atI_nat hm, p, m, _, rfl, hm8.1, by omega, by omega, hp1, fun H2 t ht hp2 off2 => ?_⟩
    have b3 := b2.draw (but_off off2) hp1.lis
    refine ⟨_, _, rfl, rfl, ((t + 1 : Nat) : Int), congrArg (fun z : Int => [V.int z]) (show 1 + ((t : Nat) : Int) = ((t + 1 : Nat) : Int) by omega), by omega, by omega, ?_⟩
    refine for_range (lo := 0) (n := t + 1) (fun i σ H' => (∃ x2 x3, σ = [some (.ref p), some (.ref R), x2, x3]) ∧ Pu H' p (n + 2 + 4 * i) ∧ ∃ rs : List (List Str), OwP K p H H' R (rs.map txD) ∧ rs.length = i ∧ ∀ r ∈ rs, goodR r) ⟨⟨_, _, rfl⟩, hp2.le (by omega), [], b3, rfl, by simp⟩ (fun i σ H' hi e => ?_) (fun σ H' e => ?_)
    · obtain ⟨⟨x2, x3, rfl⟩, hp3, rs, b4, lrs, okr⟩ := e
      have fin : ∀ (H6 : Hp) (T : Addr) (a b : Nat), H6 T = none → Pu H6 p (n + 2 + 4 * i + 1 + 1 + 1 + 1) → OwP K p H H6 R (rs.map txD) → goodR [sg a, sg b] → ∃ ys, (L2.upd H6 T (.tup [.str (sg a), .str (sg b)])) R = some (.lst ys) ∧ ys.length < sizeLine ∧ ∀ x2 x3, (∃ y2 y3, [some (V.ref p), some (.ref R), x2, x3] = [some (.ref p), some (.ref R), y2, y3]) ∧ Pu (L2.upd (L2.upd H6 T (.tup [.str (sg a), .str (sg b)])) R (.lst (ys ++ [.ref T]))) p (n + 2 + 4 * (i + 1)) ∧ ∃ rs : List (List Str), OwP K p H (L2.upd (L2.upd H6 T (.tup [.str (sg a), .str (sg b)])) R (.lst (ys ++ [.ref T]))) R (rs.map txD) ∧ rs.length = i + 1 ∧ ∀ q ∈ rs, goodR q := by
        intro H6 T a b nT hp6 b6 ok6
        have s6 := same_upd (o := .tup [.str (sg a), .str (sg b)]) nT
        obtain ⟨ys, hy, ly, put⟩ := b6.put (But.of s6 _) hp6.lis
        have hw : Ow K (L2.upd H6 T (.tup [.str (sg a), .str (sg b)])) (.ref T) (txD [sg a, sg b]) ([] ++ ([] ++ [])) := .tup (SqT.of upd_same) (.cons (.str _) (.cons (.str _) .nil (fun _ m => by cases m)) (fun _ m => by cases m))
        refine ⟨ys, hy, by rw [ly, List.length_map, sizeLine_eq]; omega, fun x2 x3 => ⟨⟨_, _, rfl⟩, ((hp6.put (hp6.ne nT)).put b6.2.1).le (by omega), rs ++ [[sg a, sg b]], ?_, by rw [List.length_append, lrs]; rfl, fun q mq => ?_⟩⟩
        · rw [List.map_append]
          exact put _ _ _ hw fun b m => by cases m
        · rcases List.mem_append.mp mq with mq | mq
          · exact okr q mq
          · rcases List.mem_singleton.mp mq with rfl
            exact ok6
      refine ⟨_, rfl, p, 2, _, rfl, by decide, by decide, by omega, hp3, fun H4 wy hw hp4 off4 => ?_⟩
      have b5 := b4.draw (but_off off4) hp3.lis
      refine ⟨rfl, _, rfl, if_by (fun _ => ?_) (fun _ => ?_)⟩
      · refine ⟨_, rfl, p, 3, _, rfl, by decide, by decide, by omega, hp4, fun H5 a ha hp5 off5 => ?_⟩
        have b6 := b5.draw (but_off off5) hp4.lis
        obtain ⟨c, mc, hc⟩ := sgn_at (i := 65 + a) (by omega)
        obtain ⟨ys0, hy0, ly0, _⟩ := b6.put (But.refl _) hp5.lis
        refine ⟨_, _, rfl, rfl, _, rfl, .inl ⟨rfl, _, SqL.of hy0⟩, rfl, _, rfl, _, _, c, rfl, congrArg V.int (show (65 : Int) + ((a : Nat) : Int) = ((65 + a : Nat) : Int) by omega), small_line (by decide +kernel), atI_nat hc, ?_⟩
        refine ⟨rfl, _, rfl, _, rfl, p, 3, _, rfl, by decide, by decide, by omega, hp5, fun H7 b hb hp7 off7 => ?_⟩
        have b8 := b6.draw (but_off off7) hp5.lis
        obtain ⟨d, md, hd⟩ := sgn_at (i := 65 + a + b) (by omega)
        refine ⟨_, _, rfl, rfl, _, _, d, rfl, congrArg V.int (show (65 : Int) + ((a : Nat) : Int) + ((b : Nat) : Int) = ((65 + a + b : Nat) : Int) by omega), small_line (by decide +kernel), atI_nat hd, (by decide : 2 ≤ sizeLine), fun T nT => ?_⟩
        obtain ⟨ys, hy, hz, fn⟩ := fin H7 T c d nT (hp7.le (by omega)) b8 (good_sg mc md (sgn_le (by omega) hc hd))
        exact ⟨R, ys, _, rfl, rfl, hy, hz, fn _ _⟩
      · refine ⟨_, rfl, p, 95, _, rfl, by decide, by decide, by omega, hp4, fun H5 lw hlw hp5 off5 => ?_⟩
        have b6 := b5.draw (but_off off5) hp4.lis
        obtain ⟨c, mc, hc⟩ := sgn_at hlw
        obtain ⟨ys0, hy0, ly0, _⟩ := b6.put (But.refl _) hp5.lis
        refine ⟨_, rfl, .inl ⟨rfl, _, SqL.of hy0⟩, rfl, _, rfl, _, _, c, rfl, rfl, small_line (by decide +kernel), atI_nat hc, ?_⟩
        refine ⟨rfl, _, rfl, _, rfl, _, rfl, _, _, rfl, rfl, p, 95 - lw, _, congrArg (fun z : Int => [V.ref p, V.int z]) (show 95 - ((lw : Nat) : Int) = ((95 - lw : Nat) : Int) by omega), by omega, by omega, by omega, hp5, fun H7 b hb hp7 off7 => ?_⟩
        have b8 := b6.draw (but_off off7) hp5.lis
        obtain ⟨d, md, hd⟩ := sgn_at (i := lw + b) (by omega)
        refine ⟨_, _, rfl, rfl, _, _, d, rfl, congrArg V.int (show ((lw : Nat) : Int) + ((b : Nat) : Int) = ((lw + b : Nat) : Int) by omega), small_line (by decide +kernel), atI_nat hd, (by decide : 2 ≤ sizeLine), fun T nT => ?_⟩
        obtain ⟨ys, hy, hz, fn⟩ := fin H7 T c d nT (hp7.le (by omega)) b8 (good_sg mc md (sgn_le (by omega) hc hd))
        exact ⟨R, ys, _, rfl, rfl, hy, hz, fn _ _⟩
    · obtain ⟨⟨x2, x3, rfl⟩, hp3, rs, b4, lrs, okr⟩ := e
      obtain ⟨S, hw, nS, bb⟩ := b4.ends
      exact ⟨_, rfl, k H' _ rs S bb hw nS (fun z => by rw [z] at lrs; simp at lrs) (by omega) okr (hp3.le (by omega))⟩
abbrev sEn : Stmt := top 43
abbrev nEn : List Str := ["_law_purse_here", "_law_way"]
theorem scEn : FnScope nEn ["_law_purse_here"] (defScope sEn) := ⟨rfl, rfl, rfl, by decide +kernel, rfl, by decide +kernel, by decide +kernel⟩
theorem has_En {f : Addr} {fd : FuncData} (F : Fun K "_law_entry" "_law_entry" sEn f fd) (g : mg "_law_entry" = some (.ref f)) (B : Blt mg) (hCo : Has P w K mg base 1 "_law_coin" ["_law_purse_here", "_law_many"] spCo) (hSi : Has P w K mg base 2 "_law_sign" ["_law_purse_here"] spSi) (hRa : Has P w K mg base 2 "_law_ranges" ["_law_purse_here"] (spRa K)) :
    Has P w K mg base 3 "_law_entry" ["_law_purse_here"] (spEn K) := by
  obtain ⟨fCo, dCo, gCo, kCo, bCo, GCo⟩ := hCo
  obtain ⟨fSi, dSi, gSi, kSi, bSi, GSi⟩ := hSi
  obtain ⟨fRa, dRa, gRa, kRa, bRa, GRa⟩ := hRa
  refine has_of F g (F.binds (ps := ["_law_purse_here"]) fun _ _ _ _ _ _ us hl => match us, hl with | [_], _ => rfl) (F.ok scEn (fun vs H Q E h => ?_) (fun cdv A outer s H vs Q E hr h => ?_))
  · obtain ⟨p, n, rfl, _⟩ := h
    rfl
  · refine ⟨_, (pss_cons (ps_set (i := 1) scEn.nd rfl (.inl rfl) (pe_call GCo (hr.mono (by decide)) rfl gCo kCo bCo .nil pass0 (pa_cons (pv 0) (pa_cons pe_int pa_nil))))
        (pss_cons (ps_if (pt_cmpR op_lt (pv 1) pe_int (nomark _)) (pss_one (ps_ret (pe_tup (pa_cons pe_str pa_nil)))) pss_nil)
        (pss_cons (ps_if (pt_cmpR op_eq (pv 1) pe_int (nomark _)) (pss_one (ps_ret (pe_tup (pa_cons pe_str pa_nil)))) pss_nil)
        (pss_cons (ps_if (pt_cmpR op_lt (pv 1) pe_int (nomark _)) (pss_one (ps_ret (pe_tup (pa_cons pe_str (pa_cons (pe_call GSi hr rfl gSi kSi bSi .nil pass0 (pa_cons (pv 0) pa_nil)) pa_nil))))) pss_nil)
        (pss_one (ps_ret (pe_tup (pa_cons pe_str (pa_cons (pe_cmpR op_eq (pv 1) pe_int (nomark _)) (pa_cons (pe_call GRa hr rfl gRa kRa bRa .nil pass0 (pa_cons (pv 0) pa_nil)) pa_nil)))))))))), ?_⟩
    obtain ⟨p, n, rfl, hn, hp, k⟩ := h
    refine ⟨_, rfl, p, 7, n, rfl, by decide, by decide, by omega, hp, fun H1 r hr7 hp1 off1 => ?_⟩
    have f1 := but_off off1
    refine ⟨_, rfl, _, _, rfl, rfl, _, rfl, if_by (fun _ => ?_) (fun _ => ?_)⟩
    · refine ⟨(by decide : 1 ≤ sizeLine), fun T nT => k _ _ (.txt ["lot"]) _ (f1.trans (But.of (same_upd nT) _)) (.tup (SqT.of upd_same) (.cons (.str _) .nil (fun _ m => by cases m))) (fun b m => by cases m) ⟨(by decide : 1 ≤ 3), (fun x m => by rcases List.mem_singleton.mp m with rfl; exact ⟨by decide +kernel, by decide +kernel⟩), fun z => by cases z⟩ rfl ((hp1.put (hp1.ne nT)).le (by omega))⟩
    refine ⟨_, rfl, rfl, _, rfl, if_by (fun _ => ?_) (fun _ => ?_)⟩
    · refine ⟨(by decide : 1 ≤ sizeLine), fun T nT => k _ _ (.txt ["any"]) _ (f1.trans (But.of (same_upd nT) _)) (.tup (SqT.of upd_same) (.cons (.str _) .nil (fun _ m => by cases m))) (fun b m => by cases m) ⟨(by decide : 1 ≤ 3), (fun x m => by rcases List.mem_singleton.mp m with rfl; exact ⟨by decide +kernel, by decide +kernel⟩), fun z => by cases z⟩ rfl ((hp1.put (hp1.ne nT)).le (by omega))⟩
    refine ⟨_, rfl, _, _, rfl, rfl, _, rfl, if_by (fun _ => ?_) (fun _ => ?_)⟩
    · refine ⟨_, rfl, p, _, rfl, by omega, hp1, fun H2 c mc hp2 s2 => ⟨(by decide : 2 ≤ sizeLine), fun T nT => ?_⟩⟩
      refine k _ _ (.txt ["one", sg c]) _ ((f1.trans (but_hide s2)).trans (But.of (same_upd nT) _)) (.tup (SqT.of upd_same) (.cons (.str _) (.cons (.str _) .nil (fun _ m => by cases m)) (fun _ m => by cases m))) (fun b m => by cases m) ⟨(by decide : 2 ≤ 3), (fun x m => ?_), fun z => by cases z⟩ ?_ ((hp2.put (hp2.ne nT)).le (by omega))
      · rcases List.mem_cons.mp m with rfl | m
        · exact ⟨by decide +kernel, by decide +kernel⟩
        · rcases List.mem_singleton.mp m with rfl
          exact sg_tx mc
      · show (("one" : Str) == "one" && sgB (sg c)) = true
        rw [sgB_sg, decide_eq_true mc]
        rfl
    · refine ⟨_, rfl, rfl, _, rfl, p, _, rfl, by omega, hp1, fun H2 v rs S f2 hw nS nn l8 okr hp2 => ⟨(by decide : 3 ≤ sizeLine), fun T nT => ?_⟩⟩
      have s3 := same_upd (o := .tup [.str "of", .bl (decide (V.int ((r : Nat) : Int) = V.int 5)), v]) nT
      refine k _ _ (.of (decide (V.int ((r : Nat) : Int) = V.int 5)) rs) ([] ++ ([] ++ (S ++ []))) ((f1.trans f2).trans (But.of s3 _)) (.tup (SqT.of upd_same) (.cons (.str _) (.cons (.bl _) (.cons (ow_same s3 hw) .nil (fun _ _ m => by cases m)) (fun _ m => by cases m)) (fun _ m => by cases m))) (fun b m => ?_) (fine_rs (by omega) okr) ?_ ((hp2.put (hp2.ne nT)).le (by omega))
      · simp at m
        have z := nS b m
        cases e : H b with
        | none => rfl
        | some u =>
          by_cases nb : b = p
          · subst nb
            obtain ⟨x, y, z', e', _⟩ := hp1
            rw [z] at e'
            cases e'
          · rw [f1 b u e fun m => nb (List.mem_singleton.mp m)] at z
            cases z
      · show (!rs.isEmpty && rs.all rgB) = true
        rw [List.all_eq_true.mpr fun r m => (okr r m).1]
        cases rs with
        | nil => exact absurd rfl nn
        | cons _ _ => rfl
end
end Qb
end PySem
namespace PySem
namespace Qb
open PySem.W PySem.Calls PyProof.Rows L2
section
variable {K : Frag} {H H' : Hp}
theorem owAll_at : ∀ {vs : List V} {ds : List PyData} {S : List Addr}, OwAll K H vs ds S → ∀ {i : Nat} {d : PyData}, ds[i]? = some d → ∃ v T, vs[i]? = some v ∧ Ow K H v d T ∧ ∀ b ∈ T, b ∈ S
  | _, _, _, .nil, i, d, e => by simp at e
  | _, _, _, .cons (S := S) h t n, 0, d, e => by
    obtain rfl := Option.some.inj e
    exact ⟨_, S, rfl, h, fun b m => List.mem_append_left _ m⟩
  | _, _, _, .cons h t n, i + 1, d, e => by
    obtain ⟨v, T, hv, hw, l⟩ := owAll_at t (i := i) e
    exact ⟨v, T, hv, hw, fun b m => List.mem_append_right _ (l b m)⟩
theorem owAll_app : ∀ {vs : List V} {ds : List PyData} {S : List Addr}, OwAll K H vs ds S → ∀ {ws : List V} {es : List PyData} {T : List Addr}, OwAll K H ws es T → (∀ b ∈ S, b ∉ T) → ∃ U, OwAll K H (vs ++ ws) (ds ++ es) U ∧ ∀ b, b ∈ U ↔ b ∈ S ∨ b ∈ T
  | _, _, _, .nil, ws, es, T, h, _ => ⟨T, h, fun b => by simp⟩
  | _, _, _, .cons (S := S1) h0 t n, ws, es, T, h, m => by
    obtain ⟨U, hU, e⟩ := owAll_app t h fun b mb => m b (List.mem_append_right _ mb)
    refine ⟨S1 ++ U, .cons h0 hU fun b mb z => ?_, fun b => ?_⟩
    · rcases (e b).mp z with z | z
      · exact n b mb z
      · exact m b (List.mem_append_left _ mb) z
    · rw [List.mem_append, e, List.mem_append, or_assoc]
theorem owAll_split : ∀ {vs : List V} {ds : List PyData} {S : List Addr}, OwAll K H vs ds S → ∀ n : Nat, ∃ S1 S2, OwAll K H (vs.take n) (ds.take n) S1 ∧ OwAll K H (vs.drop n) (ds.drop n) S2 ∧ (∀ b, b ∈ S ↔ b ∈ S1 ∨ b ∈ S2) ∧ ∀ b ∈ S1, b ∉ S2
  | _, _, S, h, 0 => ⟨[], S, by simpa using OwAll.nil, by simpa using h, (fun b => by simp), fun b m => by cases m⟩
  | _, _, _, .nil, n + 1 => ⟨[], [], by simpa using OwAll.nil, by simpa using OwAll.nil, (fun b => by simp), fun b m => by cases m⟩
  | _, _, _, .cons (S := S0) h t nn, n + 1 => by
    obtain ⟨S1, S2, h1, h2, e, dj⟩ := owAll_split t n
    refine ⟨S0 ++ S1, S2, .cons h h1 (fun b m z => nn b m ((e b).mpr (.inl z))), h2, fun b => ?_, fun b m => ?_⟩
    · rw [List.mem_append, e, List.mem_append, or_assoc]
    · rcases List.mem_append.mp m with m | m
      · exact fun z => nn b m ((e b).mpr (.inr z))
      · exact dj b m
/-- one thing more -/
theorem acc_add {H0 : Hp} {vs : List V} {ds : List PyData} {S : List Addr} (s : Same H H') (s0 : Same H0 H) (a : OwAll K H vs ds S) (nS : ∀ b ∈ S, H0 b = none) {v : V} {d : PyData} {T : List Addr} (h : Ow K H' v d T) (nT : ∀ b ∈ T, H b = none) : ∃ U, OwAll K H' (vs ++ [v]) (ds ++ [d]) U ∧ ∀ b ∈ U, H0 b = none := by
  obtain ⟨U, hU, e⟩ := owAll_add (owAll_same s a) h fun b m z => by
    obtain ⟨xs, q⟩ := owAll_lis a b m
    rw [nT b z] at q
    cases q
  exact ⟨U, hU, fun b m => ((e b).mp m).elim (nS b) fun z => s0.free (nT b z)⟩
end
/-! # tuples of texts, displayed -/
def tStrs : List Str → TA
  | [] => tNil
  | x :: xs => tCons (tC (.str x)) (tStrs xs)
def tTups : List (List Str) → TA
  | [] => tNil
  | r :: rs => tCons (tTup (tStrs r)) (tTups rs)
theorem strs_read {σ : L2.St} {H : Hp} : ∀ (xs : List Str) {Q : List V → Hp → Prop}, Q (xs.map V.str) H → tStrs xs σ H Q
  | [], _, h => h
  | x :: xs, Q, h => by
    show tStrs xs σ H fun vs H2 => Q (V.str x :: vs) H2
    exact strs_read xs h
theorem ow_txs {K : Frag} {H : Hp} {T : Addr} : ∀ {xs : List Str}, OwAll K H (xs.map V.str) (xs.map PyData.str) []
  | [] => .nil
  | x :: xs => .cons (.str x) (ow_txs (T := T) (xs := xs)) (fun _ m => by cases m)
theorem tups_read {K : Frag} {σ : L2.St} : ∀ (rs : List (List Str)) {H0 H : Hp} {vs : List V} {ds : List PyData} {Q : List V → Hp → Prop}, (∀ r ∈ rs, r.length ≤ 1000) → OwAll K H vs ds [] → Same H0 H → (∀ H' ws, Same H0 H' → OwAll K H' (vs ++ ws) (ds ++ rs.map txD) [] → Q ws H') → tTups rs σ H Q
  | [], H0, H, vs, ds, Q, _, a, s, k => k H [] s (by simpa using a)
  | r :: rs, H0, H, vs, ds, Q, l, a, s, k => by
    refine strs_read r (Q := fun ys H1 => ys.length ≤ sizeLine ∧ ∀ T, H1 T = none → tTups rs σ (L2.upd H1 T (.tup ys)) fun ws H2 => Q (V.ref T :: ws) H2) ⟨?_, fun T nT => ?_⟩
    · have := l r (.head _)
      rw [List.length_map, sizeLine_eq]
      omega
    · have s1 := same_upd (o := .tup (r.map V.str)) nT
      have hw : Ow K (L2.upd H T (.tup (r.map V.str))) (.ref T) (txD r) [] := .tup (SqT.of upd_same) (ow_txs (T := T))
      obtain ⟨U, hU, e⟩ := owAll_add (owAll_same s1 a) hw fun b m => by cases m
      obtain rfl : U = [] := by
        cases U with
        | nil => rfl
        | cons b U => exact absurd ((e b).mp (.head _)) (by simp)
      refine tups_read rs (fun r m => l r (.tail _ m)) hU (s.trans s1) fun H' ws s' a' => k H' _ s' ?_
      simpa using a'
def odd8 : List (List Str) := [["one", ""], ["one", "ab"], ["one"], ["one", "a", "b"], ["any", "a"], ["lot", "*"], ["some"], [""]]
def odd6 : List Pd := [.txt ["ones", "a"], .of false [], .of true [], .ofs true, .ofm false [["a", "b"]] "c", .txt []]
def odds : List Pd := odd8.map .txt ++ odd6
instance (x : Str) : Decidable (okTx x) := by unfold okTx; infer_instance
instance (rs : List (List Str)) : Decidable (fineR rs) := by unfold fineR; infer_instance
instance (q : Pd) : Decidable q.fine := by cases q <;> (unfold Pd.fine; infer_instance)
theorem odds_ok : ∀ q ∈ odds, q.fine ∧ q.ok = false := by decide +kernel
def badT (a b : Nat) : List (List Str) := [sg a, sg b] :: [["a"], ["a", "b", "c"], ["", "a"], ["a", "bc"], [], ["a", ""]]
theorem bads_ok {a b : Nat} (ha : a ∈ cs signsS) (hb : b ∈ cs signsS) (l : b < a) : ∀ r ∈ badT a b, rgB r = false ∧ r.length ≤ 3 ∧ ∀ x ∈ r, okTx x := by
  have rest : ∀ r ∈ ([["a"], ["a", "b", "c"], ["", "a"], ["a", "bc"], [], ["a", ""]] : List (List Str)), rgB r = false ∧ r.length ≤ 3 ∧ ∀ x ∈ r, okTx x := by decide +kernel
  intro r m
  rcases List.mem_cons.mp m with rfl | m
  · refine ⟨?_, (by decide : 2 ≤ 3), fun x m => ?_⟩
    · rw [rgB_two]
      have : decide ((sg b).cps.toList < (sg a).cps.toList) = true := decide_eq_true (show ([b] : List Nat) < [a] from .rel l)
      rw [this]
      cases sgB (sg a) <;> cases sgB (sg b) <;> rfl
    · rcases List.mem_cons.mp m with rfl | m
      · exact sg_tx ha
      · rcases List.mem_singleton.mp m with rfl
        exact sg_tx hb
  · exact rest r m
end Qb
end PySem
namespace PySem
namespace Qb
open PySem.W PySem.Calls PyProof.Rows L2
section
variable {P : Program} {w : World} {K : Frag} {mg : Str → Option Value} {base : Heap}
/-- a thing without lists, whatever is drawn -/
theorem ow_draw {K : Frag} {H H' : Hp} {p : Addr} {v : V} {d : PyData} {S : List Addr} (h : Ow K H v d S) (f : But [p] H H') (l : Lis [p] H) (n : p ∉ S) : Ow K H' v d S := ow_frame f l h fun b m z => n (by rcases List.mem_singleton.mp z with rfl; exact m)
theorem cut_from (xs : List V) (i : Nat) : cutV xs (some (i : Nat)) none = xs.drop i := by
  unfold cutV
  rw [show HT.sIx xs.length 0 (some ((i : Nat) : Int)) = min i xs.length by
    unfold HT.sIx
    simp
    omega]
  rw [show HT.sIx xs.length xs.length none = xs.length by rfl]
  rcases Nat.lt_or_ge i xs.length with h | h
  · rw [Nat.min_eq_left (Nat.le_of_lt h), List.take_of_length_le (by rw [List.length_drop]; omega)]
  · rw [Nat.min_eq_right h, List.drop_eq_nil_of_le h, List.drop_eq_nil_of_le (Nat.le_refl _)]
    simp
theorem cut_to (xs : List V) (i : Nat) : cutV xs none (some (i : Nat)) = xs.take i := by
  unfold cutV
  rw [show HT.sIx xs.length xs.length (some ((i : Nat) : Int)) = min i xs.length by
    unfold HT.sIx
    simp
    omega]
  rw [show HT.sIx xs.length 0 none = 0 by rfl, List.drop_zero, Nat.sub_zero]
  rcases Nat.lt_or_ge i xs.length with h | h
  · rw [Nat.min_eq_left (Nat.le_of_lt h)]
  · rw [Nat.min_eq_right h, List.take_of_length_le (Nat.le_refl _), List.take_of_length_le h]
theorem but_new {H H' : Hp} {p b : Addr} (f : But [p] H H') (l : Lis [p] H') (e : H' b = none) : H b = none := by
  cases z : H b with
  | none => rfl
  | some u =>
    by_cases nb : b = p
    · subst nb
      obtain ⟨xs, q⟩ := l b (.head _)
      rw [e] at q
      cases q
    · rw [f b u z fun m => nb (List.mem_singleton.mp m)] at e
      cases e
/-- xs[:k] + [m] + xs[k:] -/
theorem ins_read {K : Frag} {σ : L2.St} {H : Hp} {Q : VK} {i j : Nat} {a : Addr} {xs : List V} {k : Nat} {tE : TE} (hi : σ[i]? = some (some (.ref a))) (hj : σ[j]? = some (some (.int (k : Nat)))) (hq : H a = some (.lst xs)) (lx : xs.length ≤ 1000)
    (mid : ∀ H1 L1, Same H H1 → H1 L1 = some (.lst (xs.take k)) → H L1 = none → tE σ H1 fun y H2 => ∃ M m, y = .ref M ∧ H2 M = some (.lst [m]) ∧ H2 L1 = some (.lst (xs.take k)) ∧ H2 a = some (.lst xs) ∧
      ∀ H' L, Same H2 H' → H' L = some (.lst (xs.take k ++ [m] ++ xs.drop k)) → H2 L = none → Q (.ref L) H')
    (mono : ∀ (H1 : Hp) {R R' : VK}, (∀ y H2, R y H2 → R' y H2) → tE σ H1 R → tE σ H1 R') :
    tOp rCat (tOp rCat (tSl (rSlL K) (tVar i) tNoPart (tPart (tVar j))) tE) (tSl (rSlL K) (tVar i) (tPart (tVar j)) tNoPart) σ H Q := by
  refine ⟨_, hi, _, hj, _, rfl, a, xs, rfl, SqL.of hq, fun p1 n1 => ?_⟩
  rw [cut_to]
  have z := mid _ p1 (same_upd (o := .lst (xs.take k)) n1) upd_same n1
  refine mono _ (fun y H2 w => ?_) z
  obtain ⟨M, m, rfl, hM, h1, ha, q⟩ := w
  refine ⟨p1, M, _, _, rfl, rfl, h1, hM, by rw [List.length_take, sizeLine_eq]; simp; omega, fun p2 n2 => ?_⟩
  have s2 := same_upd (o := .lst (xs.take k ++ [m])) n2
  refine ⟨_, hi, _, hj, _, rfl, a, xs, rfl, SqL.of (s2 _ _ ha), fun p3 n3 => ?_⟩
  rw [cut_from]
  have s3 := same_upd (o := .lst (xs.drop k)) n3
  refine ⟨p2, p3, _, _, rfl, rfl, s3 _ _ upd_same, upd_same, by rw [List.length_append, List.length_take, List.length_drop, sizeLine_eq]; simp; omega, fun p4 n4 => ?_⟩
  exact q _ p4 ((s2.trans s3).trans (same_upd n4)) upd_same ((s2.trans s3).free n4)
abbrev sOd : Stmt := top 44
abbrev nOd : List Str := ["_law_purse_here", "_law_high", "_law_low", "_law_bad", "_law_odd_here", "_law_ranges_here", "_law_place"]
theorem scOd : FnScope nOd ["_law_purse_here"] (defScope sOd) := ⟨rfl, rfl, rfl, by decide +kernel, rfl, by decide +kernel, by decide +kernel⟩
theorem has_Od {f : Addr} {fd : FuncData}  (F : Fun K "_law_odd" "_law_odd" sOd f fd) (g : mg "_law_odd" = some (.ref f)) (B : Blt mg) (hCo : Has P w K mg base 1 "_law_coin" ["_law_purse_here", "_law_many"] (spCo)) (hAl : Has P w K mg base 1 "_law_signs" [] (spAl)) (hRa : Has P w K mg base 2 "_law_ranges" ["_law_purse_here"] (spRa K)) :
    Has P w K mg base 3 "_law_odd" ["_law_purse_here"] (spOd K) := by
  obtain ⟨fCo, dCo, gCo, kCo, bCo, GCo⟩ := hCo
  obtain ⟨fAl, dAl, gAl, kAl, bAl, GAl⟩ := hAl
  obtain ⟨fRa, dRa, gRa, kRa, bRa, GRa⟩ := hRa
  refine has_of F g (F.binds (ps := ["_law_purse_here"]) fun _ _ _ _ _ _ us hl => match us, hl with | [_], _ => rfl) (F.ok scOd (fun vs H Q E h => ?_) (fun cdv A outer s H vs Q E hr h => ?_))
  · obtain ⟨p, n, rfl, _⟩ := h
    rfl
  · refine ⟨_, (pss_cons (ps_set (i := 1) scOd.nd rfl (.inl rfl) (pe_op op_add pe_int (pe_call GCo (hr.mono (by decide)) rfl gCo kCo bCo .nil pass0 (pa_cons (pv 0) (pa_cons pe_int pa_nil)))))
        (pss_cons (ps_set (i := 2) scOd.nd rfl (.inl rfl) (pe_call GCo (hr.mono (by decide)) rfl gCo kCo bCo .nil pass0 (pa_cons (pv 0) (pa_cons (pv 1) pa_nil))))
        (pss_cons (ps_set (i := 3) scOd.nd rfl (.inl rfl) (pe_lst (pa_cons (pe_tup (pa_cons (pe_ix ix_str (pe_call0 GAl (hr.mono (by decide)) rfl gAl kAl bAl .nil pass0) (pv 1) (fun _ _ => rfl)) (pa_cons (pe_ix ix_str (pe_call0 GAl (hr.mono (by decide)) rfl gAl kAl bAl .nil pass0) (pv 2) (fun _ _ => rfl)) pa_nil))) (pa_cons (pe_tup (pa_cons pe_str pa_nil)) (pa_cons (pe_tup (pa_cons pe_str (pa_cons pe_str (pa_cons pe_str pa_nil)))) (pa_cons (pe_tup (pa_cons pe_str (pa_cons pe_str pa_nil))) (pa_cons (pe_tup (pa_cons pe_str (pa_cons pe_str pa_nil))) (pa_cons (pe_tup pa_nil) (pa_cons (pe_tup (pa_cons pe_str (pa_cons pe_str pa_nil))) pa_nil)))))))))
        (pss_cons (ps_set (i := 3) scOd.nd rfl (.inl rfl) (pe_ix ix_list (pv 3) (pe_call GCo (hr.mono (by decide)) rfl gCo kCo bCo .nil pass0 (pa_cons (pv 0) (pa_cons pe_int pa_nil))) (fun _ _ => rfl)))
        (pss_cons (ps_set (i := 4) scOd.nd rfl (.inl rfl) (pe_lst (pa_cons (pe_tup (pa_cons pe_str (pa_cons pe_str pa_nil))) (pa_cons (pe_tup (pa_cons pe_str (pa_cons pe_str pa_nil))) (pa_cons (pe_tup (pa_cons pe_str pa_nil)) (pa_cons (pe_tup (pa_cons pe_str (pa_cons pe_str (pa_cons pe_str pa_nil)))) (pa_cons (pe_tup (pa_cons pe_str (pa_cons pe_str pa_nil))) (pa_cons (pe_tup (pa_cons pe_str (pa_cons pe_str pa_nil))) (pa_cons (pe_tup (pa_cons pe_str pa_nil)) (pa_cons (pe_tup (pa_cons pe_str pa_nil)) pa_nil))))))))))
        (pss_cons (ps_set (i := 4) scOd.nd rfl (.inl rfl) (pe_op op_cat (pv 4) (pe_lst (pa_cons (pe_tup (pa_cons pe_str (pa_cons pe_str pa_nil))) (pa_cons (pe_tup (pa_cons pe_str (pa_cons pe_bl (pa_cons (pe_lst pa_nil) pa_nil)))) (pa_cons (pe_tup (pa_cons pe_str (pa_cons pe_bl (pa_cons (pe_lst pa_nil) pa_nil)))) (pa_cons (pe_tup (pa_cons pe_str (pa_cons pe_bl pa_nil))) (pa_cons (pe_tup (pa_cons pe_str (pa_cons pe_bl (pa_cons (pe_lst (pa_cons (pe_tup (pa_cons pe_str (pa_cons pe_str pa_nil))) pa_nil)) (pa_cons pe_str pa_nil))))) (pa_cons (pe_tup pa_nil) pa_nil)))))))))
        (pss_cons (ps_if (pt_cmpR op_eq (pe_call GCo (hr.mono (by decide)) rfl gCo kCo bCo .nil pass0 (pa_cons (pv 0) (pa_cons pe_int pa_nil))) pe_int (nomark _)) (pss_one (ps_ret (pe_ix ix_list (pv 4) (pe_call GCo (hr.mono (by decide)) rfl gCo kCo bCo .nil pass0 (pa_cons (pv 0) (pa_cons pe_int pa_nil))) (fun _ _ => rfl)))) pss_nil)
        (pss_cons (ps_set (i := 5) scOd.nd rfl (.inl rfl) (pe_call GRa hr rfl gRa kRa bRa .nil pass0 (pa_cons (pv 0) pa_nil)))
        (pss_cons (ps_set (i := 6) scOd.nd rfl (.inl rfl) (pe_call GCo (hr.mono (by decide)) rfl gCo kCo bCo .nil pass0 (pa_cons (pv 0) (pa_cons (pe_op op_add (pe_callB call_len_seq (by rfl) B.len PySem.boot_len (pa_cons (pv 5) pa_nil)) pe_int) pa_nil))))
        (pss_one (ps_ret (pe_tup (pa_cons pe_str (pa_cons (pe_cmpR op_eq (pe_call GCo (hr.mono (by decide)) rfl gCo kCo bCo .nil pass0 (pa_cons (pv 0) (pa_cons pe_int pa_nil))) pe_int (nomark _)) (pa_cons (pe_op op_cat (pe_op op_cat (pe_slice sl_list (pv 5) po_none (po_some (pv 6))) (pe_lst (pa_cons (pv 3) pa_nil))) (pe_slice sl_list (pv 5) (po_some (pv 6)) po_none)) pa_nil))))))))))))))), ?_⟩
    obtain ⟨p, n, rfl, hn, hp, k⟩ := h
    refine ⟨_, rfl, p, 94, n, rfl, by decide, by decide, by omega, hp, fun H1 h hh hp1 off1 => ?_⟩
    have f1 := but_off off1
    refine ⟨_, _, rfl, rfl, _, rfl, _, rfl, p, 1 + h, _, congrArg (fun z : Int => [V.ref p, V.int z]) (show 1 + ((h : Nat) : Int) = ((1 + h : Nat) : Int) by omega), by omega, by omega, by omega, hp1, fun H2 l hl hp2 off2 => ?_⟩
    have f2 := f1.trans (but_off off2)
    obtain ⟨c, mc, hc⟩ := sgn_at (i := 1 + h) (by omega)
    obtain ⟨d, md, hd⟩ := sgn_at (i := l) (by omega)
    have lt : d < c := by
      rcases Nat.lt_trichotomy d c with z | z | z
      · exact z
      · subst z
        have h1 := (List.getElem?_eq_some_iff.mp hc).2
        have h2 := (List.getElem?_eq_some_iff.mp hd).2
        have := List.pairwise_iff_getElem.mp sgn_asc l (1 + h) (List.getElem?_eq_some_iff.mp hd).1 (List.getElem?_eq_some_iff.mp hc).1 (by omega)
        omega
      · have := List.pairwise_iff_getElem.mp sgn_asc l (1 + h) (List.getElem?_eq_some_iff.mp hd).1 (List.getElem?_eq_some_iff.mp hc).1 (by omega)
        have h1 := (List.getElem?_eq_some_iff.mp hc).2
        have h2 := (List.getElem?_eq_some_iff.mp hd).2
        omega
    refine ⟨rfl, _, rfl, _, _, c, rfl, congrArg V.int (show 1 + ((h : Nat) : Int) = ((1 + h : Nat) : Int) by omega), small_line (by decide +kernel), atI_nat hc, rfl, _, rfl, _, _, d, rfl, rfl, small_line (by decide +kernel), atI_nat hd, (by decide : 2 ≤ sizeLine), fun T nT => ?_⟩
    have s3 := same_upd (o := .tup [.str (sg c), .str (sg d)]) nT
    have a1 : OwAll K (L2.upd H2 T (.tup [.str (sg c), .str (sg d)])) [.ref T] [txD [sg c, sg d]] ([] ++ []) := .cons (.tup (SqT.of upd_same) (ow_txs (T := T) (xs := [sg c, sg d]))) .nil (fun _ m => by cases m)
    refine tups_read (K := K) [["a"], ["a", "b", "c"], ["", "a"], ["a", "bc"], [], ["a", ""]] (H0 := H2) (vs := [.ref T]) (ds := [txD [sg c, sg d]]) (by decide) a1 s3 fun H3 ws s3' a2 => ?_
    have lw : ([V.ref T] ++ ws).length = 7 := dpLen (owAll_dp a2)
    refine ⟨by show ([V.ref T] ++ ws).length ≤ _; rw [lw]; decide, fun L nL => ?_⟩
    have s4 := s3'.trans (same_upd (o := .lst ([V.ref T] ++ ws)) nL)
    have hp4 := hp2.same s4
    refine ⟨_, rfl, _, rfl, p, 7, _, rfl, by decide, by decide, by omega, hp4, fun H5 r hr7 hp5 off5 => ?_⟩
    have f5 := (f2.trans (But.of s4 _)).trans (but_off off5)
    have a3 := owAll_frame (but_off off5) hp4.lis (owAll_same (same_upd (o := .lst ([V.ref T] ++ ws)) nL) a2) fun b m => by cases m
    have neL : L ≠ p := (hp2.same s3').ne nL
    have hL5 : H5 L = some (.lst ([V.ref T] ++ ws)) := by
      rw [off5 L neL]
      exact upd_same
    have lb : (badT c d).length = 7 := rfl
    obtain ⟨rb, mb, hb⟩ : ∃ rb ∈ badT c d, ((badT c d).map txD)[r]? = some (txD rb) := ⟨_, List.getElem_mem (by rw [lb]; exact hr7), by rw [List.getElem?_map, List.getElem?_eq_getElem (by rw [lb]; exact hr7)]; rfl⟩
    obtain ⟨bv, Tb, hbv, hbw, sb⟩ := owAll_at a3 (i := r) (d := txD rb) hb
    have okb := bads_ok mc md lt rb mb
    obtain rfl : Tb = [] := List.eq_nil_iff_forall_not_mem.mpr fun b m => absurd (sb b m) (by simp)
    refine ⟨L, _, _, bv, rfl, rfl, SqL.of hL5, atI_nat hbv, ?_⟩
    show tSeq (tAsg (tLst (tTups odd8)) (gName 4)) _ _ _ H5
    delta tSeq tAsg tLst
    refine tups_read (K := K) odd8 (H0 := H5) (vs := []) (ds := []) (by decide) .nil (Same.refl _) fun H6 w8 s6 a8 => ?_
    have lw8 : w8.length = 8 := dpLen (owAll_dp a8)
    refine ⟨by rw [lw8]; decide, fun L8 nL8 => ?_⟩
    have s7 := s6.trans (same_upd (o := .lst w8) nL8)
    have a8 := owAll_same (same_upd (o := .lst w8) nL8) a8
    have hL8 : (L2.upd H6 L8 (.lst w8)) L8 = some (.lst w8) := upd_same
    generalize L2.upd H6 L8 (.lst w8) = G0 at s7 a8 hL8
    refine ⟨_, rfl, (by decide : 2 ≤ sizeLine), fun T1 n1 => ⟨(by decide : 0 ≤ sizeLine), fun E1 m1 => ⟨(by decide : 3 ≤ sizeLine), fun T2 n2 => ⟨(by decide : 0 ≤ sizeLine), fun E2 m2 => ⟨(by decide : 3 ≤ sizeLine), fun T3 n3 => ⟨(by decide : 2 ≤ sizeLine), fun T4 n4 => ⟨(by decide : 2 ≤ sizeLine), fun T5 n5 => ⟨(by decide : 1 ≤ sizeLine), fun E3 m3 => ⟨(by decide : 4 ≤ sizeLine), fun T6 n6 => ⟨(by decide : 0 ≤ sizeLine), fun T7 n7 => ?_⟩⟩⟩⟩⟩⟩⟩⟩⟩⟩
    have a8 : OwAll K G0 w8 ((odd8.map Pd.txt).map Pd.d) [] := a8
    have z1 := same_upd (o := .tup [.str "ones", .str "a"]) n1
    obtain ⟨U1, c1, e1⟩ := acc_add (H0 := H5) z1 s7 a8 (fun b m => by cases m) (T := []) (d := Pd.d (.txt ["ones", "a"])) (v := .ref T1) (.tup (SqT.of upd_same) (ow_txs (T := T1) (xs := ["ones", "a"]))) (fun b m => by cases m)
    have q1 := s7.trans z1
    have r1 := z1 _ _ hL8
    generalize L2.upd G0 T1 (.tup [.str "ones", .str "a"]) = G1 at m1 n2 m2 n3 n4 n5 m3 n6 n7 z1 c1 q1 r1 ⊢
    have y2 := same_upd (o := .lst []) m1
    have z2 := same_upd (o := .tup [.str "of", .bl false, .ref E1]) n2
    obtain ⟨U2, c2, e2⟩ := acc_add (H0 := H5) (y2.trans z2) q1 c1 e1 (T := [] ++ ([] ++ ([E1] ++ []))) (d := Pd.d (.of false [])) (v := .ref T2) (.tup (SqT.of upd_same) (.cons (.str _) (.cons (.bl _) (.cons (.lst (z2 _ _ upd_same) .nil (by simp)) .nil (fun _ _ m => by cases m)) (fun _ m => by cases m)) (fun _ m => by cases m))) (fun b m => by rcases List.mem_singleton.mp (show b ∈ [E1] from m) with rfl; exact m1)
    have q2 := q1.trans (y2.trans z2)
    have r2 := (y2.trans z2) _ _ r1
    generalize L2.upd (L2.upd G1 E1 (.lst [])) T2 (.tup [.str "of", .bl false, .ref E1]) = G2 at m2 n3 n4 n5 m3 n6 n7 c2 q2 r2 ⊢
    have y3 := same_upd (o := .lst []) m2
    have z3 := same_upd (o := .tup [.str "of", .bl true, .ref E2]) n3
    obtain ⟨U3, c3, e3⟩ := acc_add (H0 := H5) (y3.trans z3) q2 c2 e2 (T := [] ++ ([] ++ ([E2] ++ []))) (d := Pd.d (.of true [])) (v := .ref T3) (.tup (SqT.of upd_same) (.cons (.str _) (.cons (.bl _) (.cons (.lst (z3 _ _ upd_same) .nil (by simp)) .nil (fun _ _ m => by cases m)) (fun _ m => by cases m)) (fun _ m => by cases m))) (fun b m => by rcases List.mem_singleton.mp (show b ∈ [E2] from m) with rfl; exact m2)
    have q3 := q2.trans (y3.trans z3)
    have r3 := (y3.trans z3) _ _ r2
    generalize L2.upd (L2.upd G2 E2 (.lst [])) T3 (.tup [.str "of", .bl true, .ref E2]) = G3 at n4 n5 m3 n6 n7 c3 q3 r3 ⊢
    have z4 := same_upd (o := .tup [.str "of", .bl true]) n4
    obtain ⟨U4, c4, e4⟩ := acc_add (H0 := H5) z4 q3 c3 e3 (T := [] ++ ([] ++ [])) (d := Pd.d (.ofs true)) (v := .ref T4) (.tup (SqT.of upd_same) (.cons (.str _) (.cons (.bl _) .nil (fun _ m => by cases m)) (fun _ m => by cases m))) (fun b m => by cases m)
    have q4 := q3.trans z4
    have r4 := z4 _ _ r3
    generalize L2.upd G3 T4 (.tup [.str "of", .bl true]) = G4 at n5 m3 n6 n7 c4 q4 r4 ⊢
    have x5 := same_upd (o := .tup [.str "a", .str "b"]) n5
    have y5 := same_upd (o := .lst [.ref T5]) m3
    have z5 := same_upd (o := .tup [.str "of", .bl false, .ref E3, .str "c"]) n6
    obtain ⟨U5, c5, e5⟩ := acc_add (H0 := H5) (x5.trans (y5.trans z5)) q4 c4 e4 (T := [] ++ ([] ++ ((E3 :: ([] ++ [])) ++ ([] ++ [])))) (d := Pd.d (.ofm false [["a", "b"]] "c")) (v := .ref T6) (.tup (SqT.of upd_same) (.cons (.str _) (.cons (.bl _) (.cons (.lst (z5 _ _ upd_same) (.cons (.tup (sqT_same (y5.trans z5) (SqT.of upd_same)) (ow_txs (T := T5) (xs := ["a", "b"]))) .nil (fun _ m => by cases m)) (by simp)) (.cons (.str _) .nil (fun _ m => by cases m)) (fun _ _ m => by cases m)) (fun _ m => by cases m)) (fun _ m => by cases m))) (fun b m => by
      rcases List.mem_singleton.mp (show b ∈ [E3] from m) with rfl
      exact x5.free m3)
    have q5 := q4.trans (x5.trans (y5.trans z5))
    have r5 := (x5.trans (y5.trans z5)) _ _ r4
    generalize L2.upd (L2.upd (L2.upd G4 T5 (.tup [.str "a", .str "b"])) E3 (.lst [.ref T5])) T6 (.tup [.str "of", .bl false, .ref E3, .str "c"]) = G5 at n7 c5 q5 r5 ⊢
    have z6 := same_upd (o := .tup []) n7
    obtain ⟨U6, c6, e6⟩ := acc_add (H0 := H5) z6 q5 c5 e5 (T := []) (d := Pd.d (.txt [])) (v := .ref T7) (.tup (SqT.of upd_same) .nil) (fun b m => by cases m)
    have q6 := q5.trans z6
    have r6 := z6 _ _ r5
    generalize L2.upd G5 T7 (.tup []) = G6 at c6 q6 r6 ⊢
    have c7 : OwAll K G6 (w8 ++ [.ref T1, .ref T2, .ref T3, .ref T4, .ref T6, .ref T7]) (odds.map Pd.d) U6 := by
      have z := c6
      simp only [List.append_assoc, List.cons_append, List.nil_append] at z
      exact z
    refine ⟨(by decide : 6 ≤ sizeLine), fun L6 n9 => ?_⟩
    have z7 := same_upd (o := .lst [.ref T1, .ref T2, .ref T3, .ref T4, .ref T6, .ref T7]) n9
    refine ⟨L8, L6, _, _, rfl, rfl, z7 _ _ r6, upd_same, by rw [lw8]; exact (by decide : 14 ≤ sizeLine), fun L14 n14 => ?_⟩
    have z8 := z7.trans (same_upd (o := .lst (w8 ++ [.ref T1, .ref T2, .ref T3, .ref T4, .ref T6, .ref T7])) n14)
    have q8 := q6.trans z8
    have c8 := owAll_same z8 c7
    have hL14 : (L2.upd (L2.upd G6 L6 (.lst [.ref T1, .ref T2, .ref T3, .ref T4, .ref T6, .ref T7])) L14 (.lst (w8 ++ [.ref T1, .ref T2, .ref T3, .ref T4, .ref T6, .ref T7]))) L14 = some (.lst (w8 ++ [.ref T1, .ref T2, .ref T3, .ref T4, .ref T6, .ref T7])) := upd_same
    have neL14 : L14 ≠ p := fun z => by
      obtain ⟨x, y, zz, e, _⟩ := hp5.same (q6.trans z7)
      rw [z, e] at n14
      cases n14
    generalize L2.upd (L2.upd G6 L6 (.lst [.ref T1, .ref T2, .ref T3, .ref T4, .ref T6, .ref T7])) L14 (.lst (w8 ++ [.ref T1, .ref T2, .ref T3, .ref T4, .ref T6, .ref T7])) = G8 at z8 q8 c8 hL14 ⊢
    have hp8 := hp5.same q8
    have f8 := f5.trans (But.of q8 _)
    have new : ∀ b, H5 b = none → H b = none := fun b e => by
      cases z : H b with
      | none => rfl
      | some u =>
        by_cases nb : b = p
        · subst nb
          obtain ⟨x, y, z', e', _⟩ := hp5
          rw [e] at e'
          cases e'
        · rw [f5 b u z fun m => nb (List.mem_singleton.mp m)] at e
          cases e
    refine ⟨_, rfl, p, 3, _, rfl, by decide, by decide, by omega, hp8, fun H10 y hy hp10 off10 => ?_⟩
    have f10 := f8.trans (but_off off10)
    refine ⟨rfl, _, rfl, if_by (fun _ => ?_) (fun _ => ?_)⟩
    · have h10 : H10 L14 = some (.lst (w8 ++ [.ref T1, .ref T2, .ref T3, .ref T4, .ref T6, .ref T7])) := by
        rw [off10 L14 neL14]
        exact hL14
      have pU : p ∉ U6 := fun m => by
        have z := e6 p m
        obtain ⟨x, y, z', e', _⟩ := hp5
        rw [z] at e'
        cases e'
      have c10 := owAll_frame (but_off off10) hp8.lis c8 fun b m z => pU (by rcases List.mem_singleton.mp z with rfl; exact m)
      refine ⟨_, rfl, _, rfl, p, 14, _, rfl, by decide, by decide, by omega, hp10, fun H11 i hi hp11 off11 => ?_⟩
      have c11 := owAll_frame (but_off off11) hp10.lis c10 fun b m z => pU (by rcases List.mem_singleton.mp z with rfl; exact m)
      have h11 : H11 L14 = some (.lst (w8 ++ [.ref T1, .ref T2, .ref T3, .ref T4, .ref T6, .ref T7])) := by
        rw [off11 L14 neL14]
        exact h10
      have lo : odds.length = 14 := rfl
      obtain ⟨q, mq, hq⟩ : ∃ q ∈ odds, (odds.map Pd.d)[i]? = some (Pd.d q) := ⟨_, List.getElem_mem (by rw [lo]; exact hi), by rw [List.getElem?_map, List.getElem?_eq_getElem (by rw [lo]; exact hi)]; rfl⟩
      obtain ⟨v, T', hv, hw, sub⟩ := owAll_at c11 hq
      have okq := odds_ok q mq
      exact ⟨L14, _, _, v, rfl, rfl, SqL.of h11, atI_nat hv, k _ _ q T' (f10.trans (but_off off11)) hw (fun b m => new b (e6 b (sub b m))) okq.1 okq.2 (hp11.le (by omega))⟩
    · have hbw10 := ow_draw (ow_same q8 hbw) (but_off off10) hp8.lis (by simp)
      refine ⟨_, rfl, p, _, rfl, by omega, hp10, fun H11 v rs S f11 hw nS nn l8 okr hp11 => ?_⟩
      have hbw11 := ow_draw hbw10 f11 hp10.lis (by simp)
      cases hw with
      | @lst aR xR _ SR hq al na =>
      have lx : xR.length = rs.length := by
        have := dpLen (owAll_dp al)
        rw [List.length_map] at this
        exact this
      refine ⟨_, rfl, _, rfl, aR, xR, rfl, .inl (SqL.of hq), _, _, rfl, rfl, p, rs.length + 1, _, congrArg (fun z : Int => [V.ref p, V.int z]) (show ((xR.length : Nat) : Int) + 1 = ((rs.length + 1 : Nat) : Int) by omega), by omega, by omega, by omega, hp11, fun H12 pl hpl hp12 off12 => ?_⟩
      refine ⟨_, rfl, p, 2, _, rfl, by decide, by decide, by omega, hp12, fun H13 y2 hy2 hp13 off13 => ⟨rfl, ?_⟩⟩
      have f13 := (but_off off12).trans (but_off off13)
      have pS : p ∉ aR :: SR := fun m => by
        have z := nS p m
        obtain ⟨x, y, z', e', _⟩ := hp10
        rw [z] at e'
        cases e'
      have hw13 : Ow K H13 (.ref aR) (rrD rs) (aR :: SR) := ow_draw (.lst hq al na) f13 hp11.lis pS
      have bv13 := ow_draw hbw11 f13 hp11.lis (by simp)
      have f12 := f11.trans f13
      cases hw13 with
      | @lst _ xs _ _ hq13 al13 na13 =>
      have lx13 : xs.length = rs.length := by
        have := dpLen (owAll_dp al13)
        rw [List.length_map] at this
        exact this
      refine ins_read (K := K) (i := 5) (j := 6) (a := aR) (xs := xs) (k := pl) rfl rfl hq13 (by omega) (fun H1 L1 s1 h1 n1 => ?_) (fun H1 R R' m h => ?_)
      · refine ⟨_, rfl, (by decide : 1 ≤ sizeLine), fun M nM => ⟨M, bv, rfl, upd_same, (same_upd nM) _ _ h1, (same_upd nM) _ _ (s1 _ _ hq13), fun H' L s' hL nL => ⟨(by decide : 3 ≤ sizeLine), fun T nT => ?_⟩⟩⟩
        have sT := same_upd (o := .tup [.str "of", .bl (decide (V.int ((y2 : Nat) : Int) = V.int 0)), .ref L]) nT
        have sF := (s1.trans (same_upd (o := .lst [bv]) nM)).trans s'
        have alF := owAll_same (sF.trans sT) al13
        obtain ⟨S1, S2, a1, a2, e12, dj⟩ := owAll_split alF pl
        obtain ⟨U1, b1, g1⟩ := owAll_add a1 (ow_same (sF.trans sT) bv13) (fun b _ m => by cases m)
        obtain ⟨U2, b2, g2⟩ := owAll_app b1 a2 (fun b m => ((g1 b).mp m).elim (dj b) fun z => by cases z)
        have LU : L ∉ U2 := fun m => by
          have z : L ∈ SR := by
            rcases (g2 L).mp m with m | m
            · exact (e12 L).mpr (.inl (((g1 L).mp m).elim id fun z => by cases z))
            · exact (e12 L).mpr (.inr m)
          obtain ⟨ys, q⟩ := owAll_lis al13 L z
          have := (s1.trans (same_upd (o := .lst [bv]) nM)) _ _ q
          rw [nL] at this
          cases this
        have eD : (rs.map txD).take pl ++ [txD rb] ++ (rs.map txD).drop pl = (rs.take pl ++ [rb] ++ rs.drop pl).map txD := by
          rw [List.map_append, List.map_append, List.map_take, List.map_drop]
          rfl
        rw [eD] at b2
        have good : ∀ r ∈ rs.take pl ++ [rb] ++ rs.drop pl, r.length ≤ 3 ∧ ∀ x ∈ r, okTx x := fun r m => by
          rcases List.mem_append.mp m with m | m
          · rcases List.mem_append.mp m with m | m
            · exact (okr r (List.mem_of_mem_take m)).2
            · rcases List.mem_singleton.mp m with rfl
              exact okb.2
          · exact (okr r (List.mem_of_mem_drop m)).2
        have new13 : ∀ b, H13 b = none → H b = none := fun b e => but_new f10 hp10.lis (but_new f12 hp13.lis e)
        refine k _ _ (.of (decide (V.int ((y2 : Nat) : Int) = V.int 0)) (rs.take pl ++ [rb] ++ rs.drop pl)) ([] ++ ([] ++ ((L :: U2) ++ []))) ((f10.trans f12).trans (But.of (sF.trans sT) _)) (.tup (SqT.of upd_same) (.cons (.str _) (.cons (.bl _) (.cons (.lst (sT _ _ hL) b2 LU) .nil (fun _ _ m => by cases m)) (fun _ m => by cases m)) (fun _ m => by cases m))) (fun b m => ?_) ⟨?_, good⟩ ?_ ((hp13.same (sF.trans sT)).le (by omega))
        · simp at m
          rcases m with rfl | m
          · exact new13 _ ((s1.trans (same_upd (o := .lst [bv]) nM)).free nL)
          · have z : b ∈ SR := by
              rcases (g2 b).mp m with m | m
              · exact (e12 b).mpr (.inl (((g1 b).mp m).elim id fun z => by cases z))
              · exact (e12 b).mpr (.inr m)
            exact but_new f10 hp10.lis (nS b (.tail _ z))
        · rw [List.length_append, List.length_append, List.length_take, List.length_drop]
          simp
          omega
        · show (!(rs.take pl ++ [rb] ++ rs.drop pl).isEmpty && (rs.take pl ++ [rb] ++ rs.drop pl).all rgB) = false
          rw [List.all_append, List.all_append]
          simp [okb.1]
      · obtain ⟨v, e, z, q⟩ := h
        exact ⟨v, e, z, fun M nM => m _ _ (q M nM)⟩
end
end Qb
end PySem
namespace PySem
namespace Qb
open PySem.W PySem.Calls PyProof.Rows L2
def spRo (K : Frag) : Sp := fun vs H Q _ => ∃ (p : Addr) (b : Bool) (m n : Nat), vs = [.ref p, .bl b, .int (m : Nat)] ∧ m ≤ 7 ∧ n ≤ 6000 ∧ Pu H p n ∧ ∀ (H' : Hp) (v : V) (ps : List Pd) (S : List Addr), But [p] H H' → Ow K H' v (patD ps) S → (∀ b ∈ S, H b = none) → ps.length ≤ 8 → finePs ps → okPs ps = !b → Pu H' p (n + 500) → Q v H'
section
variable {P : Program} {w : World} {K : Frag} {mg : Str → Option Value} {base : Heap}
abbrev sRo : Stmt := top 45
abbrev nRo : List Str := ["_law_purse_here", "_law_bad", "_law_most", "_law_row_here", "_law_turn", "_law_place"]
theorem scRo : FnScope nRo ["_law_purse_here", "_law_bad", "_law_most"] (defScope sRo) := ⟨rfl, rfl, rfl, by decide +kernel, rfl, by decide +kernel, by decide +kernel⟩
theorem has_Ro {f : Addr} {fd : FuncData}  (F : Fun K "_law_row" "_law_row" sRo f fd) (g : mg "_law_row" = some (.ref f)) (B : Blt mg) (hCo : Has P w K mg base 1 "_law_coin" ["_law_purse_here", "_law_many"] (spCo)) (hEn : Has P w K mg base 3 "_law_entry" ["_law_purse_here"] (spEn K)) (hOd : Has P w K mg base 3 "_law_odd" ["_law_purse_here"] (spOd K)) :
    Has P w K mg base 4 "_law_row" ["_law_purse_here", "_law_bad", "_law_most"] (spRo K) := by
  obtain ⟨fCo, dCo, gCo, kCo, bCo, GCo⟩ := hCo
  obtain ⟨fEn, dEn, gEn, kEn, bEn, GEn⟩ := hEn
  obtain ⟨fOd, dOd, gOd, kOd, bOd, GOd⟩ := hOd
  refine has_of F g (F.binds (ps := ["_law_purse_here", "_law_bad", "_law_most"]) fun _ _ _ _ _ _ us hl => match us, hl with | [_, _, _], _ => rfl) (F.ok scRo (fun vs H Q E h => ?_) (fun cdv A outer s H vs Q E hr h => ?_))
  · obtain ⟨p, b, m, n, rfl, _⟩ := h
    rfl
  · refine ⟨_, (pss_cons (ps_setLc (i := 3) (own := [("_law_turn", 4)]) (g := gName 4) (tt := tYes) rfl scRo.nd rfl rfl (sw_true rfl rfl rfl (by decide +kernel)) (pi_range1 (by rfl) B.range (pa_cons (pe_call GCo (hr.mono (by decide)) rfl gCo kCo bCo .nil pass0 (pa_cons (pv 0) (pa_cons (pe_op op_add (pv 2) pe_int) pa_nil))) pa_nil)) (blkOk_by (N := nRo) (sc := defScope sRo) (by decide +kernel)) (fun _ _ _ _ _ => pg_name (i := 4) scRo.nd rfl (.inl rfl)) (fun _ _ _ _ _ => pts_nil) (fun _ _ _ _ _ => (pe_call GEn hr rfl gEn kEn bEn .nil pass0 (pa_cons (pv 0) pa_nil))))
        (pss_cons (ps_if (pt_not (pt_val (pv 1))) (pss_one (ps_ret (pv 3))) pss_nil)
        (pss_cons (ps_set (i := 5) scRo.nd rfl (.inl rfl) (pe_call GCo (hr.mono (by decide)) rfl gCo kCo bCo .nil pass0 (pa_cons (pv 0) (pa_cons (pe_op op_add (pe_callB call_len_seq (by rfl) B.len PySem.boot_len (pa_cons (pv 3) pa_nil)) pe_int) pa_nil))))
        (pss_one (ps_ret (pe_op op_cat (pe_op op_cat (pe_slice sl_list (pv 3) po_none (po_some (pv 5))) (pe_lst (pa_cons (pe_call GOd hr rfl gOd kOd bOd .nil pass0 (pa_cons (pv 0) pa_nil)) pa_nil))) (pe_slice sl_list (pv 3) (po_some (pv 5)) po_none))))))), ?_⟩
    obtain ⟨p, b, m, n, rfl, hm, hn, hp, k⟩ := h
    refine ⟨_, rfl, _, rfl, _, _, rfl, rfl, p, m + 1, n, congrArg (fun z : Int => [V.ref p, V.int z]) (show ((m : Nat) : Int) + 1 = ((m + 1 : Nat) : Int) by omega), by omega, by omega, by omega, hp, fun H1 c hc hp1 off1 => ?_⟩
    have f1 := but_off off1
    refine ⟨_, rfl, by omega, by omega, fun D nD => ?_⟩
    have ne := hp1.ne nD
    refine lc_it (walk_range (lo := 0) (n := c)) (fun i H' => Pu H' p (n + 1 + 50 * i) ∧ ∃ qs : List Pd, OwP K p H1 H' D (qs.map Pd.d) ∧ qs.length = i ∧ ∀ q ∈ qs, q.fine ∧ q.ok = true) ⟨(hp1.put ne).le (by omega), [], OwP.new nD ne, rfl, by simp⟩ (fun _ _ _ _ => trivial) (fun i x H' H2 hi e y => ?_) (fun H' e => ?_)
    · obtain ⟨rfl, rfl⟩ := y
      obtain ⟨hp2, qs, bq, lq, okq⟩ := e
      refine ⟨rfl, _, rfl, p, _, rfl, by omega, hp2, fun H3 v q S f hw nS fq oq hp3 => ?_⟩
      obtain ⟨ys, hy, ly, put⟩ := bq.put f hp2.lis
      refine ⟨ys, hy, by rw [ly, List.length_map, sizeLine_eq]; omega, (hp3.put ne).le (by omega), qs ++ [q], ?_, by rw [List.length_append, lq]; rfl, fun r mr => ?_⟩
      · rw [List.map_append]
        exact put v _ S hw nS
      · rcases List.mem_append.mp mr with mr | mr
        · exact okq r mr
        · rcases List.mem_singleton.mp mr with rfl
          exact ⟨fq, oq⟩
    · obtain ⟨hp2, qs, bq, lq, okq⟩ := e
      obtain ⟨S, hw, nS, f2⟩ := bq.ends
      have new1 : ∀ b, H1 b = none → H b = none := fun b e => but_new f1 hp1.lis e
      have fineq : finePs qs := ⟨by omega, fun q mq => (okq q mq).1⟩
      have okall : okPs qs = true := List.all_eq_true.mpr fun q mq => (okq q mq).2
      cases b with
      | false => exact ⟨_, rfl, _, rfl, if_yes rfl ⟨_, rfl, k H' _ qs S (f1.trans f2) hw (fun b m => new1 b (nS b m)) (by omega) fineq okall (hp2.le (by omega))⟩⟩
      | true =>
        refine ⟨_, rfl, _, rfl, if_no rfl ?_⟩
        cases hw with
        | @lst _ xs0 _ SR hq0 al0 na0 =>
        have lx0 : xs0.length = qs.length := by
          have := dpLen (owAll_dp al0)
          rw [List.length_map] at this
          exact this
        refine ⟨_, rfl, _, rfl, D, xs0, rfl, .inl (SqL.of hq0), _, _, rfl, rfl, p, qs.length + 1, _, congrArg (fun z : Int => [V.ref p, V.int z]) (show ((xs0.length : Nat) : Int) + 1 = ((qs.length + 1 : Nat) : Int) by omega), by omega, by omega, by omega, hp2, fun H3 pl hpl hp3 off3 => ?_⟩
        have f3 := but_off off3
        have pS : p ∉ D :: SR := fun m => by
          have z := nS p m
          obtain ⟨x, y, z', e', _⟩ := hp1
          rw [z] at e'
          cases e'
        have hw3 : Ow K H3 (.ref D) (patD qs) (D :: SR) := ow_draw (.lst hq0 al0 na0) f3 hp2.lis pS
        cases hw3 with
        | @lst _ xs _ _ hq al na =>
        have lx : xs.length = qs.length := by
          have := dpLen (owAll_dp al)
          rw [List.length_map] at this
          exact this
        refine ins_read (K := K) (i := 3) (j := 5) (a := D) (xs := xs) (k := pl) rfl rfl hq (by omega) (fun H4 L1 s1 h1 n1 => ?_) (fun H1 R R' m h => ?_)
        · refine ⟨_, rfl, p, _, rfl, by omega, hp3.same s1, fun H5 v q T f5 hv nT fq oq hp5 => ⟨(by decide : 1 ≤ sizeLine), fun M nM => ?_⟩⟩
          have hpl : p ∉ [L1] := by
            intro m
            rcases List.mem_singleton.mp m with rfl
            obtain ⟨x, y, z', e', _⟩ := hp3
            rw [n1] at e'
            cases e'
          have neL1 : L1 ≠ p := fun z => hpl (by rw [z]; exact .head _)
          have h15 := f5 _ _ h1 (fun m => neL1 (List.mem_singleton.mp m))
          have hq5 := f5 _ _ (s1 _ _ hq) (fun m => ne (List.mem_singleton.mp m))
          have sM := same_upd (o := .lst [v]) nM
          refine ⟨M, v, rfl, upd_same, sM _ _ h15, sM _ _ hq5, fun H' L s' hL nL => ?_⟩
          have pR : p ∉ SR := fun m => pS (.tail _ m)
          have al5 : OwAll K H5 xs _ SR := owAll_frame f5 (hp3.same s1).lis (owAll_same s1 al) fun b m z => pR (by rcases List.mem_singleton.mp z with rfl; exact m)
          have alF := owAll_same (sM.trans s') al5
          obtain ⟨S1, S2, a1, a2, e12, dj⟩ := owAll_split alF pl
          have dT : ∀ b ∈ T, b ∉ SR := fun b m z => by
            obtain ⟨ys, q⟩ := owAll_lis (owAll_same s1 al) b z
            rw [nT b m] at q
            cases q
          obtain ⟨U1, b1, g1⟩ := owAll_add a1 (ow_same (sM.trans s') hv) (fun b m z => dT b z ((e12 b).mpr (.inl m)))
          obtain ⟨U2, b2, g2⟩ := owAll_app b1 a2 (fun b m z => ((g1 b).mp m).elim (fun y => dj b y z) fun y => dT b y ((e12 b).mpr (.inr z)))
          have inU : ∀ b ∈ U2, b ∈ SR ∨ b ∈ T := fun b m => by
            rcases (g2 b).mp m with m | m
            · rcases (g1 b).mp m with m | m
              · exact .inl ((e12 b).mpr (.inl m))
              · exact .inr m
            · exact .inl ((e12 b).mpr (.inr m))
          have LU : L ∉ U2 := fun m => by
            have z : ∃ ys, H5 L = some (.lst ys) := by
              rcases inU L m with z | z
              · exact owAll_lis al5 L z
              · exact ow_lis hv L z
            obtain ⟨ys, q⟩ := z
            have := sM _ _ q
            rw [nL] at this
            cases this
          have eD : (qs.map Pd.d).take pl ++ [Pd.d q] ++ (qs.map Pd.d).drop pl = (qs.take pl ++ [q] ++ qs.drop pl).map Pd.d := by
            rw [List.map_append, List.map_append, List.map_take, List.map_drop]
            rfl
          rw [eD] at b2
          have f34 : But [p] H3 H4 := But.of s1 _
          have new3 : ∀ b, H3 b = none → H b = none := fun b e => new1 b (but_new (f2.trans f3) hp3.lis e)
          have len9 : (qs.take pl ++ [q] ++ qs.drop pl).length ≤ 8 := by
            rw [List.length_append, List.length_append, List.length_take, List.length_drop]
            simp
            omega
          refine k H' _ (qs.take pl ++ [q] ++ qs.drop pl) (L :: U2) (((f1.trans f2).trans f3).trans ((f34.trans f5).trans (But.of (sM.trans s') _))) (.lst hL b2 LU) (fun b m => ?_) len9 ⟨by omega, fun r m => ?_⟩ ?_ ((hp5.same (sM.trans s')).le (by omega))
          · have n4 : ∀ b, H4 b = none → H b = none := fun b e => new3 b (s1.free e)
            rcases List.mem_cons.mp m with rfl | m
            · exact n4 _ (but_new f5 hp5.lis (sM.free nL))
            · rcases inU b m with z | z
              · exact new1 b (nS b (.tail _ z))
              · exact n4 b (nT b z)
          · rcases List.mem_append.mp m with m | m
            · rcases List.mem_append.mp m with m | m
              · exact fineq.2 r (List.mem_of_mem_take m)
              · rcases List.mem_singleton.mp m with rfl
                exact fq
            · exact fineq.2 r (List.mem_of_mem_drop m)
          · show (qs.take pl ++ [q] ++ qs.drop pl).all Pd.ok = false
            rw [List.all_append, List.all_append]
            simp [oq]
        · obtain ⟨v, e, q⟩ := h
          refine ⟨v, e, ?_⟩
          obtain ⟨p', n', hv, h1, h2, h3⟩ := q
          exact ⟨p', n', hv, h1, h2, fun H' v q S f hw nS fq oq hp => ⟨(h3 H' v q S f hw nS fq oq hp).1, fun M nM => m _ _ ((h3 H' v q S f hw nS fq oq hp).2 M nM)⟩⟩
end
end Qb
end PySem
namespace PySem
namespace Qb
open PySem.W PySem.Calls PyProof.Rows L2
def spAh : Sp := fun vs H Q _ => ∃ (p : Addr) (n : Nat), vs = [.ref p] ∧ n ≤ 3000 ∧ Pu H p n ∧ ∀ (H' : Hp), But [p] H H' → Q (.bl true) H'
theorem ix_listK {X : Cx} {K : Frag} (h : X.K = K) : IxR X (rIxL K) := h ▸ ix_list
theorem in_two {k a b : Nat} : inV (.int ((k : Nat) : Int)) [.int ((a : Nat) : Int), .int ((b : Nat) : Int)] = (k == a || k == b) := by
  show (eqV _ _ || (eqV _ _ || false)) = _
  rw [Bool.or_false]
  have e : ∀ x : Nat, eqV (.int ((x : Nat) : Int)) (.int ((k : Nat) : Int)) = (k == x) := fun x => by
    by_cases h : k = x
    · subst h
      show (((k : Nat) : Int) == ((k : Nat) : Int)) = _
      simp
    · have : ((x : Nat) : Int) ≠ ((k : Nat) : Int) := by omega
      show (((x : Nat) : Int) == ((k : Nat) : Int)) = _
      rw [beq_eq_false_iff_ne.mpr this, beq_eq_false_iff_ne.mpr h]
  rw [e a, e b]
theorem pl_arms {arms : List (List (List Pd))} (h : fineAll arms.flatten) (la : arms.length ≤ 100) : Pl 6 (armsD arms) := by
  refine .inr ⟨_, .inl rfl, by rw [List.length_map]; omega, fun e m => ?_⟩
  obtain ⟨pss, mp, rfl⟩ := List.mem_map.mp m
  have sub : ∀ ps ∈ pss, ps ∈ arms.flatten := fun ps q => List.mem_flatten.mpr ⟨pss, mp, q⟩
  have ln : pss.length ≤ arms.flatten.length := by
    obtain ⟨l1, l2, rfl⟩ := List.append_of_mem mp
    rw [List.flatten_append, List.flatten_cons, List.length_append, List.length_append]
    omega
  refine .inr ⟨_, .inl rfl, by rw [List.length_map]; have := h.1; omega, fun e m => ?_⟩
  obtain ⟨ps, mq, rfl⟩ := List.mem_map.mp m
  exact pl_pat (h.2 ps (sub ps mq))
theorem flat_ones {α : Type} : ∀ l : List α, (l.map fun a => [a]).flatten = l
  | [] => rfl
  | a :: l => by
    rw [List.map_cons, List.flatten_cons, flat_ones l]
    rfl
def topOf (l k : Nat) : Nat := if l < 4 then (if k = l then 7 else 1) else 3
theorem topOf_le (l k : Nat) : topOf l k ≤ 7 := by
  unfold topOf
  split
  · split <;> omega
  · omega
section
variable {P : Program} {w : World} {K : Frag} {mg : Str → Option Value} {base : Heap} {CP : Addr}
abbrev sAh : Stmt := top 51
abbrev nAh : List Str := ["_law_purse_here", "_law_bad", "_law_worse", "_law_long", "_law_tops", "_law_k", "_law_rows", "_law_cut", "_law_cases", "_law_row_here", "_law_passed", "_law_caught"]
theorem scAh : FnScope nAh ["_law_purse_here"] (defScope sAh) := ⟨rfl, rfl, rfl, by decide +kernel, rfl, by decide +kernel, by decide +kernel⟩
theorem has_Ah {f : Addr} {fd : FuncData}  (F : Fun K "_law_arms_hold" "_law_arms_hold" sAh f fd) (g : mg "_law_arms_hold" = some (.ref f)) (B : Blt mg) (hCo : Has P w K mg base 1 "_law_coin" ["_law_purse_here", "_law_many"] (spCo)) (hRo : Has P w K mg base 4 "_law_row" ["_law_purse_here", "_law_bad", "_law_most"] (spRo K)) (hOw : Has P w K mg base 8 "_law_own" ["_law_thing"] (spOw K 7)) (hAa : Has P w K mg base 11 "_law_asked_arms" ["_law_way", "_law_cases"] (spA3 K CP)) (hRf : Has P w K mg base 9 "_law_is_refusal" ["_law_caught", "_law_due", "_law_passed"] (spRf K CP)) :
    Has P w K mg base 12 "_law_arms_hold" ["_law_purse_here"] spAh := by
  obtain ⟨fCo, dCo, gCo, kCo, bCo, GCo⟩ := hCo
  obtain ⟨fRo, dRo, gRo, kRo, bRo, GRo⟩ := hRo
  obtain ⟨fOw, dOw, gOw, kOw, bOw, GOw⟩ := hOw
  obtain ⟨fAa, dAa, gAa, kAa, bAa, GAa⟩ := hAa
  obtain ⟨fRf, dRf, gRf, kRf, bRf, GRf⟩ := hRf
  refine has_of F g (F.binds (ps := ["_law_purse_here"]) fun _ _ _ _ _ _ us hl => match us, hl with | [_], _ => rfl) (F.ok scAh (fun vs H Q E h => ?_) (fun cdv A outer s H vs Q E hr h => ?_))
  · obtain ⟨p, n, rfl, _⟩ := h
    rfl
  · refine ⟨_, (pss_cons (ps_set (i := 1) scAh.nd rfl (.inr rfl) (pe_call GCo (hr.mono (by decide)) rfl gCo kCo bCo .nil pass0 (pa_cons (pv 0) (pa_cons pe_int pa_nil))))
        (pss_cons (ps_set (i := 2) scAh.nd rfl (.inr rfl) (pe_call GCo (hr.mono (by decide)) rfl gCo kCo bCo .nil pass0 (pa_cons (pv 0) (pa_cons pe_int pa_nil))))
        (pss_cons (ps_set (i := 3) scAh.nd rfl (.inr rfl) (pe_call GCo (hr.mono (by decide)) rfl gCo kCo bCo .nil pass0 (pa_cons (pv 0) (pa_cons pe_int pa_nil))))
        (pss_cons (ps_set (i := 4) scAh.nd rfl (.inr rfl) (pe_lc (own := [("_law_k", 5)]) (g := gName 5) (tt := tYes) rfl scAh.nd (pi_range1 (by rfl) B.range (pa_cons pe_int pa_nil)) (blkOk_by (N := nAh) (sc := defScope sAh) (by decide +kernel)) (fun _ _ _ _ _ => pg_name (i := 5) scAh.nd rfl (.inl rfl)) (fun _ _ _ _ _ => pts_nil) (fun _ _ _ _ _ => (pe_ifExp (pt_cmpR op_lt (pv 3) pe_int (nomark _)) (pe_ix (ix_listK (K := K) rfl) (pe_lst (pa_cons pe_int (pa_cons pe_int pa_nil))) (pe_callTy call_int1 (by rfl) B.int (by decide +kernel) (pa_cons (pe_cmpR op_eq (pv 5) (pv 3) (nomark _)) pa_nil)) (fun _ _ => rfl)) pe_int))))
        (pss_cons (ps_setLc (i := 6) (te := tCall (spRo K) [] E0 (tCons (tVar 0) (tCons (tOp (rIn K false) (tVar 5) (tLst (tCons (tVar 1) (tCons (tVar 2) tNil)))) (tCons (tOp (rIxL K) (tVar 4) (tVar 5)) tNil)))) (own := [("_law_k", 5)]) (g := gName 5) (tt := tYes) rfl scAh.nd rfl rfl (sw_true rfl rfl rfl (by decide +kernel)) (pi_range1 (by rfl) B.range (pa_cons (pe_op op_add (pe_op op_add (pv 1) pe_int) (pe_call GCo (hr.mono (by decide)) rfl gCo kCo bCo .nil pass0 (pa_cons (pv 0) (pa_cons pe_int pa_nil)))) pa_nil)) (blkOk_by (N := nAh) (sc := defScope sAh) (by decide +kernel)) (fun _ _ _ _ _ => pg_name (i := 5) scAh.nd rfl (.inl rfl)) (fun _ _ _ _ _ => pts_nil) (fun _ _ _ _ _ => (pe_call GRo (hr.mono (by decide)) rfl gRo kRo bRo .nil pass0 (pa_cons (pv 0) (pa_cons (pe_cmpR op_in_seq (pv 5) (pe_lst (pa_cons (pv 1) (pa_cons (pv 2) pa_nil))) (by rfl)) (pa_cons (pe_ix ix_list (pv 4) (pv 5) (fun _ _ => rfl)) pa_nil))))))
        (pss_cons (ps_set (i := 7) scAh.nd rfl (.inl rfl) (pe_call GCo (hr.mono (by decide)) rfl gCo kCo bCo .nil pass0 (pa_cons (pv 0) (pa_cons (pe_op op_add (pe_callB call_len_seq (by rfl) B.len PySem.boot_len (pa_cons (pv 6) pa_nil)) pe_int) pa_nil))))
        (pss_cons (ps_set (i := 8) scAh.nd rfl (.inl rfl) (pe_lst (pa_cons (pe_slice sl_list (pv 6) po_none (po_some (pv 7))) (pa_cons (pe_slice sl_list (pv 6) (po_some (pv 7)) po_none) pa_nil))))
        (pss_cons (ps_if (pt_cmpR op_eq (pe_call GCo (hr.mono (by decide)) rfl gCo kCo bCo .nil pass0 (pa_cons (pv 0) (pa_cons pe_int pa_nil))) pe_int (nomark _)) (pss_one (ps_set (i := 8) scAh.nd rfl (.inl rfl) (pe_op op_cat (pe_lst (pa_cons (pe_lst pa_nil) pa_nil)) (pe_lc (own := [("_law_row_here", 9)]) (g := gName 9) (tt := tYes) rfl scAh.nd (pi_list (pv 6)) (blkOk_by (N := nAh) (sc := defScope sAh) (by decide +kernel)) (fun _ _ _ _ _ => pg_name (i := 9) scAh.nd rfl (.inl rfl)) (fun _ _ _ _ _ => pts_nil) (fun _ _ _ _ _ => (pe_lst (pa_cons (pv 9) pa_nil))))))) pss_nil)
        (pss_cons (ps_set (i := 10) scAh.nd rfl (.inl rfl) (pe_call GOw (hr.mono (by decide)) rfl gOw kOw bOw .nil pass0 (pa_cons (pv 8) pa_nil)))
        (pss_cons (ps_set (i := 11) scAh.nd rfl (.inl rfl) (pe_call GAa hr rfl gAa kAa bAa .nil pass0 (pa_cons (pe_call GCo (hr.mono (by decide)) rfl gCo kCo bCo .nil pass0 (pa_cons (pv 0) (pa_cons pe_int pa_nil))) (pa_cons (pv 10) pa_nil))))
        (pss_one (ps_ret (pe_call GRf (hr.mono (by decide)) rfl gRf kRf bRf .nil pass0 (pa_cons (pv 11) (pa_cons (pe_ix ix_list (pv 6) (pe_callB (call_min2 rfl) (by rfl) B.min (by decide +kernel) (pa_cons (pv 1) (pa_cons (pv 2) pa_nil))) (fun _ _ => rfl)) (pa_cons (pv 10) pa_nil)))))))))))))))), ?_⟩
    obtain ⟨p, n, rfl, hn, hp, k⟩ := h
    refine ⟨_, rfl, p, 3, n, rfl, by decide, by decide, by omega, hp, fun H1 bd hbd hp1 off1 => ?_⟩
    refine ⟨_, rfl, p, 3, _, rfl, by decide, by decide, by omega, hp1, fun H2 wo hwo hp2 off2 => ?_⟩
    refine ⟨_, rfl, p, 6, _, rfl, by decide, by decide, by omega, hp2, fun H3 lg hlg hp3 off3 => ?_⟩
    have f3 := ((but_off off1).trans (but_off off2)).trans (but_off off3)
    have nw3 : ∀ b, H3 b = none → H b = none := fun b e => but_new f3 hp3.lis e
    refine ⟨4, rfl, by decide, by decide, fun D nD => ?_⟩
    have neD := hp3.ne nD
    refine lc_it (walk_range (lo := 0) (n := 4)) (fun i H' => Same H3 H' ∧ H' D = some (.lst ((List.range i).map fun k => V.int ((topOf lg k : Nat) : Int)))) ⟨same_upd nD, upd_same⟩ (fun _ _ _ _ => trivial) (fun i x H' H4 hi e y => ?_) (fun H' e => ?_)
    · obtain ⟨rfl, rfl⟩ := y
      obtain ⟨s4, hD⟩ := e
      have put : ∀ (H5 : Hp) (z : Int), Same H4 H5 → z = ((topOf lg i : Nat) : Int) → ∃ acc, H5 D = some (.lst acc) ∧ acc.length < sizeLine ∧ Same H3 (L2.upd H5 D (.lst (acc ++ [V.int z]))) ∧ (L2.upd H5 D (.lst (acc ++ [V.int z]))) D = some (.lst ((List.range (i + 1)).map fun k => V.int ((topOf lg k : Nat) : Int))) := fun H5 z s5 ez => by
        refine ⟨_, s5 _ _ hD, by rw [List.length_map, List.length_range, sizeLine_eq]; omega, same_upd2 (s4.trans s5) nD, ?_⟩
        rw [upd_same, List.range_succ, List.map_append, ez]
        rfl
      refine ⟨rfl, _, rfl, _, _, rfl, rfl, _, rfl, if_by (fun e => ?_) (fun e => ?_)⟩
      · have l4 : lg < 4 := by have := of_decide_eq_true e; omega
        refine ⟨(by decide : 2 ≤ sizeLine), fun L nL => ?_⟩
        refine ⟨_, rfl, _, rfl, rfl, .inr ⟨_, rfl, ?_⟩⟩
        have s5 := same_upd (o := .lst [.int 1, .int 7]) nL
        by_cases e2 : i = lg
        · have z : topOf lg i = 7 := by
            unfold topOf
            rw [if_pos l4, if_pos e2]
          refine ⟨L, _, _, .int 7, rfl, rfl, SqL.of upd_same, ?_, put _ 7 s5 (by rw [z]; rfl)⟩
          rw [show decide (V.int (0 + ((i : Nat) : Int)) = V.int ((lg : Nat) : Int)) = true from decide_eq_true (by rw [e2, Int.zero_add])]
          rfl
        · have z : topOf lg i = 1 := by
            unfold topOf
            rw [if_pos l4, if_neg e2]
          refine ⟨L, _, _, .int 1, rfl, rfl, SqL.of upd_same, ?_, put _ 1 s5 (by rw [z]; rfl)⟩
          rw [show decide (V.int (0 + ((i : Nat) : Int)) = V.int ((lg : Nat) : Int)) = false from decide_eq_false (fun q => e2 (by have := V.int.inj q; omega))]
          rfl
      · have l4 : ¬ lg < 4 := by have := of_decide_eq_false e; omega
        exact put H4 3 (Same.refl _) (by unfold topOf; rw [if_neg l4]; rfl)
    · obtain ⟨s4, hD⟩ := e
      have hp4 := hp3.same s4
      refine ⟨_, rfl, _, _, rfl, rfl, _, rfl, p, 2, _, rfl, by decide, by decide, by omega, hp4, fun H5 c hc hp5 off5 => ?_⟩
      have f5 := f3.trans ((But.of s4 _).trans (but_off off5))
      have hD5 : H5 D = some (.lst ((List.range 4).map fun k => V.int ((topOf lg k : Nat) : Int))) := by
        rw [off5 D neD]
        exact hD
      refine ⟨_, _, rfl, rfl, ((bd + 1 + c : Nat) : Int), congrArg (fun z : Int => [V.int z]) (show ((bd : Nat) : Int) + 1 + ((c : Nat) : Int) = ((bd + 1 + c : Nat) : Int) by omega), by omega, by omega, fun R nR => ?_⟩
      have neR := hp5.ne nR
      have nDR : D ≠ R := fun z => by rw [z, nR] at hD5; cases hD5
      refine lc_it (walk_range (lo := 0) (n := bd + 1 + c)) (fun i H' => Pu H' p (n + 4 + 500 * i) ∧ H' D = some (.lst ((List.range 4).map fun k => V.int ((topOf lg k : Nat) : Int))) ∧ ∃ pss : List (List Pd), OwP K p H5 H' R (pss.map patD) ∧ pss.length = i ∧ ∀ (j : Nat) (ps : List Pd), pss[j]? = some ps → finePs ps ∧ ps.length ≤ 8 ∧ okPs ps = !(j == bd || j == wo)) ⟨(hp5.put neR).le (by omega), by rw [upd_ne nDR]; exact hD5, [], OwP.new nR neR, rfl, by simp⟩ (fun _ _ _ _ => trivial) (fun i x H' H6 hi e y => ?_) (fun H' e => ?_)
      · obtain ⟨rfl, rfl⟩ := y
        obtain ⟨hp6, hD6, pss, bR, lps, okp⟩ := e
        refine ⟨rfl, _, rfl, _, rfl, _, rfl, _, rfl, (by decide : 2 ≤ sizeLine), fun L nL => ?_⟩
        have s7 := same_upd (o := .lst [.int ((bd : Nat) : Int), .int ((wo : Nat) : Int)]) nL
        refine ⟨L, _, rfl, .inl (SqL.of upd_same), rfl, rfl, _, rfl, _, rfl, D, _, _, .int ((topOf lg i : Nat) : Int), rfl, rfl, SqL.of (s7 _ _ hD6), ?_, ?_⟩
        · rw [Int.zero_add]
          refine atI_nat ?_
          rw [List.getElem?_map, List.getElem?_range (by omega)]
          rfl
        · refine ⟨p, (i == bd || i == wo), topOf lg i, _, ?_, topOf_le _ _, by omega, hp6.same s7, fun H8 v ps S f8 hw nS l8 fp op hp8 => ?_⟩
          · show [V.ref p, V.bl (inV (.int (0 + ((i : Nat) : Int))) [.int ((bd : Nat) : Int), .int ((wo : Nat) : Int)]), V.int ((topOf lg i : Nat) : Int)] = _
            rw [Int.zero_add, in_two]
          · obtain ⟨ys, hy, ly, put⟩ := (bR.same s7).put f8 (hp6.same s7).lis
            have nD8 : H8 D = some (.lst ((List.range 4).map fun k => V.int ((topOf lg k : Nat) : Int))) := f8 _ _ (s7 _ _ hD6) (fun m => neD (List.mem_singleton.mp m))
            refine ⟨ys, hy, by rw [ly, List.length_map, sizeLine_eq]; omega, (hp8.put neR).le (by omega), by rw [upd_ne nDR]; exact nD8, pss ++ [ps], ?_, by rw [List.length_append, lps]; rfl, fun j qs hj => ?_⟩
            · rw [List.map_append]
              exact put v _ S hw nS
            · by_cases e : j < pss.length
              · rw [List.getElem?_append_left e] at hj
                exact okp j qs hj
              · rw [List.getElem?_append_right (by omega)] at hj
                have e2 : j = pss.length := by
                  have := (List.getElem?_eq_some_iff.mp hj).1
                  simp at this
                  omega
                subst e2
                rw [Nat.sub_self] at hj
                obtain rfl := Option.some.inj hj
                rw [lps]
                exact ⟨fp, l8, op⟩
      · obtain ⟨hp6, hD6, pss, bR, lps, okp⟩ := e
        obtain ⟨SR, hwR, nSR, f7⟩ := bR.ends
        have f6 := f5.trans f7
        have pSR : p ∉ SR := fun m => by
          obtain ⟨x, y, z', e', _⟩ := hp5
          rw [nSR p m] at e'
          cases e'
        cases hwR with
        | @lst _ x6 _ SR hq6 al6 na6 =>
        have lx : x6.length = pss.length := by
          have := dpLen (owAll_dp al6)
          rw [List.length_map] at this
          exact this
        have fall : fineAll pss := ⟨by omega, fun ps m => by
          obtain ⟨j, hj⟩ := List.mem_iff_getElem?.mp m
          exact (okp j ps hj).1⟩
        obtain ⟨bad, hbad⟩ : ∃ bad, pss[min bd wo]? = some bad := ⟨_, List.getElem?_eq_getElem (by omega)⟩
        have fb : FB pss bad := ⟨_, hbad, by rw [(okp _ _ hbad).2.2]; rcases Nat.le_total bd wo with h | h <;> simp [Nat.min_eq_left, Nat.min_eq_right, h], fun j hj qs hq => by
          rw [(okp j qs hq).2.2]
          have e1 : j ≠ bd := by omega
          have e2 : j ≠ wo := by omega
          rw [beq_eq_false_iff_ne.mpr e1, beq_eq_false_iff_ne.mpr e2]
          rfl⟩
        refine ⟨_, rfl, _, rfl, R, x6, rfl, .inl (SqL.of hq6), _, _, rfl, rfl, p, pss.length + 1, _, congrArg (fun z : Int => [V.ref p, V.int z]) (show ((x6.length : Nat) : Int) + 1 = ((pss.length + 1 : Nat) : Int) by omega), by omega, by omega, by omega, hp6, fun H7 ct hct hp7 off7 => ?_⟩
        have hw7 : Ow K H7 (.ref R) (.list (pss.map patD)) (R :: SR) := ow_draw (.lst hq6 al6 na6) (but_off off7) hp6.lis pSR
        have f67 := f6.trans (but_off off7)
        cases hw7 with
        | @lst _ x7 _ _ hq7 al7 na7 =>
        refine ⟨_, rfl, _, rfl, _, rfl, R, x7, rfl, SqL.of hq7, fun C1 nC1 => ?_⟩
        rw [cut_to]
        have s8 := same_upd (o := .lst (x7.take ct)) nC1
        refine ⟨_, rfl, _, rfl, _, rfl, R, x7, rfl, SqL.of (s8 _ _ hq7), fun C2 nC2 => ?_⟩
        rw [cut_from]
        have s9 := same_upd (o := .lst (x7.drop ct)) nC2
        refine ⟨(by decide : 2 ≤ sizeLine), fun C3 nC3 => ?_⟩
        have s10 := same_upd (o := .lst [.ref C1, .ref C2]) nC3
        have sA := (s8.trans s9).trans s10
        have dpc : ∃ SC, Ow K (L2.upd (L2.upd (L2.upd H7 C1 (.lst (x7.take ct))) C2 (.lst (x7.drop ct))) C3 (.lst [.ref C1, .ref C2])) (.ref C3) (armsD [pss.take ct, pss.drop ct]) SC ∧ p ∉ SC := by
          obtain ⟨S1, S2, a1, a2, e12, dj⟩ := owAll_split (owAll_same sA al7) ct
          rw [← List.map_take] at a1
          rw [← List.map_drop] at a2
          have l7 := owAll_lis al7
          have in7 : ∀ b, b ∈ S1 ∨ b ∈ S2 → ∃ xs, H7 b = some (.lst xs) := fun b m => l7 b ((e12 b).mpr m)
          have n1 : ∀ b, b ∈ S1 ∨ b ∈ S2 → b ≠ C1 := fun b m z => by
            obtain ⟨xs, q⟩ := in7 b m
            rw [z, nC1] at q
            cases q
          have n2 : ∀ b, b ∈ S1 ∨ b ∈ S2 → b ≠ C2 := fun b m z => by
            obtain ⟨xs, q⟩ := in7 b m
            rw [z, s8.free nC2] at q
            cases q
          have n3 : ∀ b, b ∈ S1 ∨ b ∈ S2 → b ≠ C3 := fun b m z => by
            obtain ⟨xs, q⟩ := in7 b m
            rw [z, (s8.trans s9).free nC3] at q
            cases q
          have n12 : C1 ≠ C2 := fun z => by
            rw [← z, upd_same] at nC2
            cases nC2
          have n13 : C1 ≠ C3 := fun z => by
            have q := s9 _ _ (upd_same (H := H7) (a := C1) (o := .lst (x7.take ct)))
            rw [← z, q] at nC3
            cases nC3
          have n23 : C2 ≠ C3 := fun z => by
            rw [← z, upd_same] at nC3
            cases nC3
          refine ⟨C3 :: ((C1 :: S1) ++ ((C2 :: S2) ++ [])), .lst upd_same (.cons (.lst ((s9.trans s10) _ _ upd_same) a1 fun m => n1 _ (.inl m) rfl) (.cons (.lst (s10 _ _ upd_same) a2 fun m => n2 _ (.inr m) rfl) .nil (fun _ _ m => by cases m)) (fun b m z => ?_)) (fun m => ?_), fun m => ?_⟩
          · simp at z
            rcases List.mem_cons.mp m with rfl | m
            · rcases z with z | z
              · exact n12 z
              · exact n1 _ (.inr z) rfl
            · rcases z with z | z
              · exact n2 _ (.inl m) z
              · exact dj b m z
          · simp at m
            rcases m with z | z | z | z
            · exact n13 z.symm
            · exact n3 _ (.inl z) rfl
            · exact n23 z.symm
            · exact n3 _ (.inr z) rfl
          · have pq : ∃ o, H7 p = some o := by
              obtain ⟨x, y, z', e', _⟩ := hp7
              exact ⟨_, e'⟩
            obtain ⟨o, pq⟩ := pq
            simp at m
            rcases m with z | z | z | z | z
            · rw [z] at pq
              rw [(s8.trans s9).free nC3] at pq
              cases pq
            · rw [z, nC1] at pq
              cases pq
            · exact pSR (.tail _ ((e12 p).mpr (.inl z)))
            · rw [z, s8.free nC2] at pq
              cases pq
            · exact pSR (.tail _ ((e12 p).mpr (.inr z)))
        obtain ⟨SC, dpc, pSC⟩ := dpc
        have hw10 : Ow K _ (.ref R) (.list (pss.map patD)) (R :: SR) := ow_same sA (.lst hq7 al7 na7)
        have hp10 := hp7.same sA
        have ef : [pss.take ct, pss.drop ct].flatten = pss := by
          rw [List.flatten_cons, List.flatten_cons, List.flatten_nil, List.append_nil, List.take_append_drop]
        generalize L2.upd (L2.upd (L2.upd H7 C1 (.lst (x7.take ct))) C2 (.lst (x7.drop ct))) C3 (.lst [.ref C1, .ref C2]) = H10 at sA dpc hw10 hp10 ⊢
        have f10 := f67.trans (But.of sA _)
        refine ⟨_, rfl, p, 3, _, rfl, by decide, by decide, by omega, hp10, fun H11 y hy hp11 off11 => ?_⟩
        have f11 := f10.trans (but_off off11)
        have hw11 := ow_draw hw10 (but_off off11) hp10.lis pSR
        refine ⟨rfl, _, rfl, if_by (fun _ => ?_) (fun _ => ?_)⟩
        · cases hw11 with
          | @lst _ xz _ _ hq11 al11 na11 =>
          refine ⟨(by decide : 0 ≤ sizeLine), fun E nE => ⟨(by decide : 1 ≤ sizeLine), fun F nF => ?_⟩⟩
          have sE := same_upd (o := .lst []) nE
          have sF := sE.trans (same_upd (o := .lst [.ref E]) nF)
          have hF : (L2.upd (L2.upd H11 E (.lst [])) F (.lst [.ref E])) F = some (.lst [.ref E]) := upd_same
          have hE : (L2.upd (L2.upd H11 E (.lst [])) F (.lst [.ref E])) E = some (.lst []) := (same_upd (o := .lst [.ref E]) nF) _ _ upd_same
          generalize L2.upd (L2.upd H11 E (.lst [])) F (.lst [.ref E]) = H12 at sF hF hE ⊢
          refine ⟨_, rfl, R, rfl, ⟨_, SqL.of (sF _ _ hq11)⟩, fun G nG => ?_⟩
          refine lc_it (walk_list (xs := xz)) (fun i H' => Same H12 H' ∧ ∃ ls : List Addr, H' G = some (.lst (ls.map V.ref)) ∧ ls.length = i ∧ ∀ (j : Nat) (l : Addr), ls[j]? = some l → ∃ x, xz[j]? = some x ∧ l ≠ G ∧ H' l = some (.lst [x])) ⟨same_upd nG, [], upd_same, rfl, by simp⟩ (fun i H' _ e => SqL.of (e.1 _ _ (sF _ _ hq11))) (fun i x H' H13 hi e y => ?_) (fun H' e => ?_)
          · obtain ⟨rfl, hx⟩ := y
            obtain ⟨s13, ls, hG, lls, ols⟩ := e
            refine ⟨rfl, _, rfl, (by decide : 1 ≤ sizeLine), fun l nl => ?_⟩
            have sl := same_upd (o := .lst [x]) nl
            refine ⟨_, sl _ _ hG, by rw [List.length_map, lls, sizeLine_eq]; have := dpLen (owAll_dp al11); rw [List.length_map] at this; omega, same_upd2 (s13.trans sl) nG, ls ++ [l], by rw [upd_same, List.map_append]; rfl, by rw [List.length_append, lls]; rfl, fun j l' hl' => ?_⟩
            have nlG : l ≠ G := fun z => by
              rw [z, hG] at nl
              cases nl
            by_cases ej : j < ls.length
            · rw [List.getElem?_append_left ej] at hl'
              obtain ⟨x', h1, h2, h3⟩ := ols j l' hl'
              exact ⟨x', h1, h2, by rw [upd_ne h2]; exact sl _ _ h3⟩
            · rw [List.getElem?_append_right (by omega)] at hl'
              have e2 : j = ls.length := by
                have := (List.getElem?_eq_some_iff.mp hl').1
                simp at this
                omega
              subst e2
              rw [Nat.sub_self] at hl'
              obtain rfl := Option.some.inj hl'
              exact ⟨x, by rw [lls]; exact hx, nlG, by rw [upd_ne nlG]; exact upd_same⟩
          · obtain ⟨s13, ls, hG, lls, ols⟩ := e
            refine ⟨F, G, _, _, rfl, rfl, s13 _ _ hF, hG, by rw [List.length_map, lls, sizeLine_eq]; have := dpLen (owAll_dp al11); rw [List.length_map] at this; simp; omega, fun C nC => ?_⟩
            have sC := same_upd (o := .lst ([.ref E] ++ ls.map V.ref)) nC
            have sAll := (sF.trans s13).trans sC
            have one : ∀ {xs : List V} {ls : List Addr} {pss : List (List Pd)} {G : Hp}, ls.length = xs.length → (∀ (j : Nat) (l : Addr), ls[j]? = some l → ∃ x, xs[j]? = some x ∧ G l = some (.lst [x])) → DpAll K G xs (pss.map patD) → DpAll K G (ls.map V.ref) ((pss.map fun ps => [ps]).map fun q => PyData.list (q.map patD)) := by
              intro xs
              induction xs with
              | nil =>
                intro ls pss G hl ho al
                cases pss with
                | nil =>
                  cases ls with
                  | nil => exact .nil
                  | cons _ _ => simp at hl
                | cons _ _ => cases al
              | cons x xs ih =>
                intro ls pss G hl ho al
                cases pss with
                | nil => cases al
                | cons ps pss =>
                  cases ls with
                  | nil => simp at hl
                  | cons l ls =>
                    cases al with
                    | cons h1 h2 =>
                      obtain ⟨x', e1, e2⟩ := ho 0 l rfl
                      obtain rfl := Option.some.inj e1
                      exact .cons (.lst (SqL.of e2) (.cons h1 .nil)) (ih (by simpa using hl) (fun j l' h => ho (j + 1) l' h) h2)
            have dp11 : Dp K (L2.upd H' C (.lst ([.ref E] ++ ls.map V.ref))) (.ref C) (armsD ([] :: pss.map fun ps => [ps])) :=
              .lst (SqL.of upd_same) (.cons (.lst (SqL.of (sC _ _ (s13 _ _ hE))) .nil) (one (xs := xz) (by rw [lls]) (fun j l h => by
                obtain ⟨x, h1, _, h3⟩ := ols j l h
                exact ⟨x, h1, sC _ _ h3⟩) (dpAll_same sAll (owAll_dp al11))))
            have ef : ([] :: pss.map fun ps => [ps]).flatten = pss := by
              rw [List.flatten_cons, List.nil_append, flat_ones]
            have hw11 : Ow K (L2.upd H' C (.lst ([.ref E] ++ ls.map V.ref))) (.ref R) (.list (pss.map patD)) (R :: SR) := ow_same sAll (.lst hq11 al11 na11)
            have hp11 := hp11.same sAll
            have f11 := f11.trans (But.of sAll _)
            generalize L2.upd H' C (.lst ([.ref E] ++ ls.map V.ref)) = H11 at dp11 hw11 hp11 f11 ⊢
            have fa : fineAll ([] :: pss.map fun ps => [ps]).flatten := by rw [ef]; exact fall
            refine ⟨_, rfl, .ref C, armsD ([] :: pss.map fun ps => [ps]), rfl, dp11, pl_arms fa (by rw [List.length_cons, List.length_map]; omega), fun H20 u S s20 hu nS => ?_⟩
            refine ⟨_, rfl, p, 2, _, rfl, by decide, by decide, by omega, hp11.same s20, fun H21 wy hwy hp21 off21 => ?_⟩
            have pS : p ∉ S := fun m => by
              obtain ⟨x, y, z', e', _⟩ := hp11
              rw [nS p m] at e'
              cases e'
            have hu21 := ow_draw hu (but_off off21) (hp11.same s20).lis pS
            refine ⟨_, rfl, ((wy : Nat) : Int), u, ([] :: pss.map fun ps => [ps]), rfl, ow_dp hu21, fa, by rw [List.length_cons, List.length_map]; omega, bad, by rw [ef]; exact fb, fun H22 e u' T s22 he hu' nT => ?_⟩
            have f22 : But [p] H11 H22 := ((But.of s20 _).trans (but_off off21)).trans (But.of s22 _)
            have pn : ∀ b, b ≠ p → b ∉ [p] := fun b h m => h (List.mem_singleton.mp m)
            cases hw11 with
            | @lst _ xz _ _ hq11 al11 na11 =>
            have hq22 := f22 _ _ hq11 (pn R neR)
            obtain ⟨v22, T22, hv22, hw22, sub22⟩ := owAll_at al11 (i := min bd wo) (d := patD bad) (by rw [List.getElem?_map, hbad]; rfl)
            refine ⟨_, rfl, _, rfl, _, rfl, _, rfl, _, _, rfl, R, xz, _, v22, rfl, rfl, SqL.of hq22, ?_, ?_⟩
            · have e : (if ((wo : Nat) : Int) < ((bd : Nat) : Int) then ((wo : Nat) : Int) else ((bd : Nat) : Int)) = ((min bd wo : Nat) : Int) := by
                split <;> omega
              rw [e]
              exact atI_nat hv22
            · refine ⟨_, rfl, e, v22, u, u', patD bad, armsD _, S, T, hide H11 p, rfl, he, hu', ow_same s22 hu21, fun b m z => ?_, fun b o h => ?_, fun b m => ?_, ow_dp (ow_frame (S := [p]) (fun b o h n => hide_ne h fun z => n (by rw [z]; exact .head _)) hp11.lis hw22 ?_), pl_up (pl_pat (fall.2 bad (List.mem_of_getElem? hbad))) (by decide), pl_arms fa (by rw [List.length_cons, List.length_map]; omega), fun H23 b23 => k _ fun b o h n => ?_⟩
              · obtain ⟨ys, q⟩ := ow_lis hu21 b z
                rw [nT b m] at q
                cases q
              · have nb : b ≠ p := fun z => by
                  unfold hide at h
                  rw [if_pos z] at h
                  cases h
                exact f22 _ _ (hide_same _ _ h) (pn b nb)
              · unfold hide
                split
                · rfl
                · exact nS b m
              · intro b m z
                rcases List.mem_singleton.mp z with rfl
                exact pSR (.tail _ (sub22 _ m))
              · have h11 := f11 b o h n
                exact b23 b o (f22 b o h11 n) fun m => by rw [nS b m] at h11; cases h11
        · have dp11 : Dp K H11 (.ref C3) (armsD [pss.take ct, pss.drop ct]) := ow_dp (ow_draw dpc (but_off off11) hp10.lis pSC)
          have fa : fineAll ([pss.take ct, pss.drop ct]).flatten := by rw [ef]; exact fall
          refine ⟨_, rfl, .ref C3, armsD ([pss.take ct, pss.drop ct]), rfl, dp11, pl_arms fa (by simp), fun H20 u S s20 hu nS => ?_⟩
          refine ⟨_, rfl, p, 2, _, rfl, by decide, by decide, by omega, hp11.same s20, fun H21 wy hwy hp21 off21 => ?_⟩
          have pS : p ∉ S := fun m => by
            obtain ⟨x, y, z', e', _⟩ := hp11
            rw [nS p m] at e'
            cases e'
          have hu21 := ow_draw hu (but_off off21) (hp11.same s20).lis pS
          refine ⟨_, rfl, ((wy : Nat) : Int), u, [pss.take ct, pss.drop ct], rfl, ow_dp hu21, fa, by simp, bad, by rw [ef]; exact fb, fun H22 e u' T s22 he hu' nT => ?_⟩
          have f22 : But [p] H11 H22 := ((But.of s20 _).trans (but_off off21)).trans (But.of s22 _)
          have pn : ∀ b, b ≠ p → b ∉ [p] := fun b h m => h (List.mem_singleton.mp m)
          cases hw11 with
          | @lst _ xz _ _ hq11 al11 na11 =>
          have hq22 := f22 _ _ hq11 (pn R neR)
          obtain ⟨v22, T22, hv22, hw22, sub22⟩ := owAll_at al11 (i := min bd wo) (d := patD bad) (by rw [List.getElem?_map, hbad]; rfl)
          refine ⟨_, rfl, _, rfl, _, rfl, _, rfl, _, _, rfl, R, xz, _, v22, rfl, rfl, SqL.of hq22, ?_, ?_⟩
          · have e : (if ((wo : Nat) : Int) < ((bd : Nat) : Int) then ((wo : Nat) : Int) else ((bd : Nat) : Int)) = ((min bd wo : Nat) : Int) := by
              split <;> omega
            rw [e]
            exact atI_nat hv22
          · refine ⟨_, rfl, e, v22, u, u', patD bad, armsD _, S, T, hide H11 p, rfl, he, hu', ow_same s22 hu21, fun b m z => ?_, fun b o h => ?_, fun b m => ?_, ow_dp (ow_frame (S := [p]) (fun b o h n => hide_ne h fun z => n (by rw [z]; exact .head _)) hp11.lis hw22 ?_), pl_up (pl_pat (fall.2 bad (List.mem_of_getElem? hbad))) (by decide), pl_arms fa (by simp), fun H23 b23 => k _ fun b o h n => ?_⟩
            · obtain ⟨ys, q⟩ := ow_lis hu21 b z
              rw [nT b m] at q
              cases q
            · have nb : b ≠ p := fun z => by
                unfold hide at h
                rw [if_pos z] at h
                cases h
              exact f22 _ _ (hide_same _ _ h) (pn b nb)
            · unfold hide
              split
              · rfl
              · exact nS b m
            · intro b m z
              rcases List.mem_singleton.mp z with rfl
              exact pSR (.tail _ (sub22 _ m))
            · have h11 := f11 b o h n
              exact b23 b o (f22 b o h11 n) fun m => by rw [nS b m] at h11; cases h11
end
end Qb
end PySem
namespace PySem
namespace Qb
open PySem.W PySem.Calls PyProof.Rows L2
def lawSp (K : Frag) : Sp := fun vs H Q _ => ∃ (a : Addr) (ns : List Int), vs = [.ref a] ∧ SqL K H a (ns.map V.int) ∧ ns.length ≤ 63 ∧ ∀ H', Q (.bl true) H'
section
variable {P : Program} {w : World} {K : Frag} {mg : Str → Option Value} {base : Heap} {CP : Addr}
theorem sqL_but {H H' : Hp} {S : List Addr} {a : Addr} {xs : List V} (f : But S H H') (n : a ∉ S) (h : SqL K H a xs) : SqL K H' a xs := by
  rcases h with (h | ⟨o, h⟩) | h
  · exact .inl (.inl (f _ _ h n))
  · exact .inl (.inr ⟨o, f _ _ h n⟩)
  · exact .inr h
theorem same_but {H1 H H' : Hp} {S : List Addr} (s : Same H1 H) (f : But S H H') (n : ∀ b ∈ S, H1 b = none) : Same H1 H' := fun b u e => f b u (s b u e) fun m => by
  rw [n b m] at e
  cases e
theorem ow_apart {K : Frag} {H0 H H' : Hp} {S T : List Addr} {v : V} {d : PyData} (h : Ow K H v d T) (h0 : Ow K H0 v d T) (f : But S H H') (l : Lis S H) (n : ∀ b ∈ S, H0 b = none) : Ow K H' v d T := ow_frame f l h fun b m z => by
  obtain ⟨xs, q⟩ := ow_lis h0 b m
  rw [n b z] at q
  cases q
abbrev sLw : Stmt := top 52
abbrev nLw : List Str := ["_law_script", "_law_at", "_law_purse_here", "_law_ways", "_law_bad", "_law_most", "_law_left", "_law_right", "_law_wrong", "_law_passed"]
theorem scLw : FnScope nLw ["_law_script"] (defScope sLw) := ⟨rfl, rfl, rfl, by decide +kernel, rfl, by decide +kernel, by decide +kernel⟩
theorem ok_Lw {f : Addr} {fd : FuncData}  (F : Fun K "law" "law" sLw f fd) (g : mg "law" = some (.ref f)) (B : Blt mg) (hPu : Has P w K mg base 1 "_law_purse" ["_law_script", "_law_at"] (spPu K)) (hCo : Has P w K mg base 1 "_law_coin" ["_law_purse_here", "_law_many"] (spCo)) (hRo : Has P w K mg base 4 "_law_row" ["_law_purse_here", "_law_bad", "_law_most"] (spRo K)) (hSm : Has P w K mg base 7 "_law_same" ["_law_found", "_law_due"] (spSm K 6)) (hPa : Has P w K mg base 4 "is_pattern" ["pattern"] (spPa K)) (hOw : Has P w K mg base 8 "_law_own" ["_law_thing"] (spOw K 7)) (hRf : Has P w K mg base 9 "_law_is_refusal" ["_law_caught", "_law_due", "_law_passed"] (spRf K CP)) (hAo : Has P w K mg base 11 "_law_asked_one" ["_law_way", "_law_row_here"] (spA1 K CP)) (hAt : Has P w K mg base 12 "_law_asked_two" ["_law_way", "_law_left", "_law_right"] (spA2 K CP)) (hAh : Has P w K mg base 12 "_law_arms_hold" ["_law_purse_here"] spAh) :
    FnOk P w K mg base CX0 13 f fd ["_law_script"] (lawSp K) := by
  obtain ⟨fPu, dPu, gPu, kPu, bPu, GPu⟩ := hPu
  obtain ⟨fCo, dCo, gCo, kCo, bCo, GCo⟩ := hCo
  obtain ⟨fRo, dRo, gRo, kRo, bRo, GRo⟩ := hRo
  obtain ⟨fSm, dSm, gSm, kSm, bSm, GSm⟩ := hSm
  obtain ⟨fPa, dPa, gPa, kPa, bPa, GPa⟩ := hPa
  obtain ⟨fOw, dOw, gOw, kOw, bOw, GOw⟩ := hOw
  obtain ⟨fRf, dRf, gRf, kRf, bRf, GRf⟩ := hRf
  obtain ⟨fAo, dAo, gAo, kAo, bAo, GAo⟩ := hAo
  obtain ⟨fAt, dAt, gAt, kAt, bAt, GAt⟩ := hAt
  obtain ⟨fAh, dAh, gAh, kAh, bAh, GAh⟩ := hAh
  refine (F.ok scLw (fun vs H Q E h => ?_) (fun cdv A outer s H vs Q E hr h => ?_))
  · obtain ⟨a, ns, rfl, _⟩ := h
    rfl
  · refine ⟨_, (pss_cons (ps_for PassesOwn.never rfl (pi_range1 (by rfl) B.range (pa_cons (pe_callB (call_max2 rfl) (by rfl) B.max (by decide +kernel) (pa_cons pe_int (pa_cons (pe_callB (call_min2 rfl) (by rfl) B.min (by decide +kernel) (pa_cons pe_int (pa_cons (pe_callB call_len_seq (by rfl) B.len PySem.boot_len (pa_cons (pv 0) pa_nil)) pa_nil))) pa_nil))) pa_nil)) (pg_name (i := 1) scLw.nd rfl (.inl rfl))
          (pss_cons (ps_set (i := 2) scLw.nd rfl (.inl rfl) (pe_call GPu (hr.mono (by decide)) rfl gPu kPu bPu .nil pass0 (pa_cons (pv 0) (pa_cons (pv 1) pa_nil))))
          (pss_cons (ps_set (i := 3) scLw.nd rfl (.inl rfl) (pe_lst (pa_cons (pe_call GCo (hr.mono (by decide)) rfl gCo kCo bCo .nil pass0 (pa_cons (pv 2) (pa_cons pe_int pa_nil))) (pa_cons (pe_call GCo (hr.mono (by decide)) rfl gCo kCo bCo .nil pass0 (pa_cons (pv 2) (pa_cons pe_int pa_nil))) pa_nil))))
          (pss_cons (ps_set (i := 4) scLw.nd rfl (.inl rfl) (pe_call GCo (hr.mono (by decide)) rfl gCo kCo bCo .nil pass0 (pa_cons (pv 2) (pa_cons pe_int pa_nil))))
          (pss_cons (ps_set (i := 5) scLw.nd rfl (.inl rfl) (pe_ix ix_list (pe_lst (pa_cons pe_int (pa_cons pe_int pa_nil))) (pe_call GCo (hr.mono (by decide)) rfl gCo kCo bCo .nil pass0 (pa_cons (pv 2) (pa_cons pe_int pa_nil))) (fun _ _ => rfl)))
          (pss_cons (ps_set (i := 6) scLw.nd rfl (.inl rfl) (pe_call GRo (hr.mono (by decide)) rfl gRo kRo bRo .nil pass0 (pa_cons (pv 2) (pa_cons (pe_cmpR op_ne (pv 4) pe_int (nomark _)) (pa_cons (pv 5) pa_nil)))))
          (pss_cons (ps_set (i := 7) scLw.nd rfl (.inl rfl) (pe_call GRo (hr.mono (by decide)) rfl gRo kRo bRo .nil pass0 (pa_cons (pv 2) (pa_cons (pe_cmpR op_ne (pv 4) pe_int (nomark _)) (pa_cons (pv 5) pa_nil)))))
          (pss_cons (ps_if (pt_not (pt_val (pe_call GSm (hr.mono (by decide)) rfl gSm kSm bSm .nil pass0 (pa_cons (pe_call GPa (hr.mono (by decide)) rfl gPa kPa bPa .nil pass0 (pa_cons (pe_call GOw (hr.mono (by decide)) rfl gOw kOw bOw .nil pass0 (pa_cons (pv 6) pa_nil)) pa_nil)) (pa_cons (pe_cmpR op_eq (pv 4) pe_int (nomark _)) pa_nil))))) (pss_one (ps_ret pe_bl)) pss_nil)
          (pss_cons (ps_if (pt_not (pt_val (pe_call GSm (hr.mono (by decide)) rfl gSm kSm bSm .nil pass0 (pa_cons (pe_call GPa (hr.mono (by decide)) rfl gPa kPa bPa .nil pass0 (pa_cons (pe_call GOw (hr.mono (by decide)) rfl gOw kOw bOw .nil pass0 (pa_cons (pv 7) pa_nil)) pa_nil)) (pa_cons (pe_cmpR op_eq (pv 4) pe_int (nomark _)) pa_nil))))) (pss_one (ps_ret pe_bl)) pss_nil)
          (pss_cons (ps_set (i := 8) scLw.nd rfl (.inl rfl) (pe_ix ix_list (pe_lst (pa_cons (pv 6) (pa_cons (pv 7) pa_nil))) (pe_callTy call_int1 (by rfl) B.int (by decide +kernel) (pa_cons (pe_cmpR op_eq (pv 4) pe_int (nomark _)) pa_nil)) (fun _ _ => rfl)))
          (pss_cons (ps_set (i := 9) scLw.nd rfl (.inl rfl) (pe_call GOw (hr.mono (by decide)) rfl gOw kOw bOw .nil pass0 (pa_cons (pv 8) pa_nil)))
          (pss_cons (ps_if (pt_not (pt_val (pe_call GRf (hr.mono (by decide)) rfl gRf kRf bRf .nil pass0 (pa_cons (pe_call GAo (hr.mono (by decide)) rfl gAo kAo bAo .nil pass0 (pa_cons (pe_ix ix_list (pv 3) pe_int (fun _ _ => rfl)) (pa_cons (pv 9) pa_nil))) (pa_cons (pv 8) (pa_cons (pv 9) pa_nil)))))) (pss_one (ps_ret pe_bl)) pss_nil)
          (pss_cons (ps_set (i := 9) scLw.nd rfl (.inl rfl) (pe_lst (pa_cons (pe_call GOw (hr.mono (by decide)) rfl gOw kOw bOw .nil pass0 (pa_cons (pv 6) pa_nil)) (pa_cons (pe_call GOw (hr.mono (by decide)) rfl gOw kOw bOw .nil pass0 (pa_cons (pv 7) pa_nil)) pa_nil))))
          (pss_cons (ps_if (pt_not (pt_val (pe_call GRf (hr.mono (by decide)) rfl gRf kRf bRf .nil pass0 (pa_cons (pe_call GAt hr rfl gAt kAt bAt .nil pass0 (pa_cons (pe_ix ix_list (pv 3) pe_int (fun _ _ => rfl)) (pa_cons (pe_ix ix_list (pv 9) pe_int (fun _ _ => rfl)) (pa_cons (pe_ix ix_list (pv 9) pe_int (fun _ _ => rfl)) pa_nil)))) (pa_cons (pv 8) (pa_cons (pv 9) pa_nil)))))) (pss_one (ps_ret pe_bl)) pss_nil)
          (pss_one (ps_if (pt_not (pt_val (pe_call GAh hr rfl gAh kAh bAh .nil pass0 (pa_cons (pv 2) pa_nil)))) (pss_one (ps_ret pe_bl)) pss_nil))))))))))))))))
        (pss_one (ps_ret pe_bl))), ?_⟩
    obtain ⟨a, ns, rfl, hq, hl, k⟩ := h
    have b40 : ∀ e m : Int, m = (if e < 40 then e else 40) → 0 ≤ (if m > 1 then m else 1) ∧ (if m > 1 then m else 1) ≤ 40 := fun e m h => by
      subst h
      split <;> split <;> omega
    obtain ⟨b0, b1⟩ := b40 ((ns.length : Nat) : Int) _ rfl
    obtain ⟨n, hn⟩ := Int.eq_ofNat_of_zero_le b0
    refine ⟨_, rfl, a, _, rfl, .inl hq, _, _, rfl, _, _, rfl, _, rfl, ?_⟩
    rw [List.length_map, hn]
    rw [hn] at b1
    refine ⟨by omega, by omega, for_range (lo := 0) (n := n) (fun i σ H' => (∃ x1 x2 x3 x4 x5 x6 x7 x8 x9 : Option V, σ = [some (.ref a), x1, x2, x3, x4, x5, x6, x7, x8, x9]) ∧ SqL K H' a (ns.map V.int)) ⟨⟨_, _, _, _, _, _, _, _, _, rfl⟩, hq⟩ (fun i σ H1 hi e => ?_) (fun σ H1 e => k _)⟩
    obtain ⟨⟨x1, x2, x3, x4, x5, x6, x7, x8, x9, rfl⟩, hq1⟩ := e
    refine ⟨_, rfl, _, rfl, a, ns, i, by rw [Int.zero_add]; rfl, hq1, hl, fun H2 p s2 np hp => ?_⟩
    have pn : ∀ b ∈ [p], H1 b = none := fun b m => by
      rcases List.mem_singleton.mp m with rfl
      exact np
    refine ⟨_, rfl, p, 5, 0, rfl, by decide, by decide, by decide, hp, fun H3 w1 hw1 hp3 off3 => ⟨_, rfl, p, 4, _, rfl, by decide, by decide, by decide, hp3, fun H4 w2 hw2 hp4 off4 => ⟨(by decide : 2 ≤ sizeLine), fun W nW => ?_⟩⟩⟩
    have t4 := same_but (same_but s2 (but_off off3) pn) (but_off off4) pn
    have t4 := t4.trans (same_upd (o := .lst [.int ((w1 : Nat) : Int), .int ((w2 : Nat) : Int)]) nW)
    have neW := hp4.ne nW
    have hW : (L2.upd H4 W (.lst [.int ((w1 : Nat) : Int), .int ((w2 : Nat) : Int)])) W = some (.lst [.int ((w1 : Nat) : Int), .int ((w2 : Nat) : Int)]) := upd_same
    have hp4 := hp4.put (o := .lst [.int ((w1 : Nat) : Int), .int ((w2 : Nat) : Int)]) neW
    generalize L2.upd H4 W (.lst [.int ((w1 : Nat) : Int), .int ((w2 : Nat) : Int)]) = G4 at t4 hW hp4 ⊢
    refine ⟨_, rfl, p, 3, _, rfl, by decide, by decide, by decide, hp4, fun H5 bd hbd hp5 off5 => ?_⟩
    refine ⟨(by decide : 2 ≤ sizeLine), fun M nM => ?_⟩
    have s5 := same_upd (o := .lst (([3, 7] : List Nat).map fun n : Nat => V.int ((n : Nat) : Int))) nM
    have neM := hp5.ne nM
    have hp5' := hp5.put (o := .lst (([3, 7] : List Nat).map fun n : Nat => V.int ((n : Nat) : Int))) neM
    refine ⟨_, rfl, p, 2, _, rfl, by decide, by decide, by decide, hp5', fun H6 r hr2 hp6 off6 => ?_⟩
    have hM : H6 M = some (.lst (([3, 7] : List Nat).map fun n : Nat => V.int ((n : Nat) : Int))) := by rw [off6 M neM]; exact upd_same
    obtain ⟨m, mm, hm⟩ := pick_n [3, 7] (r := r) hr2
    have hm7 : m ≤ 7 := by
      have : ∀ m ∈ ([3, 7] : List Nat), m ≤ 7 := by decide
      exact this m mm
    have t6 := same_but ((same_but t4 (but_off off5) pn).trans s5) (but_off off6) pn
    have hW6 : H6 W = some (.lst [.int ((w1 : Nat) : Int), .int ((w2 : Nat) : Int)]) := by
      rw [off6 W neW]
      exact s5 _ _ (by rw [off5 W neW]; exact hW)
    refine ⟨M, _, _, _, rfl, rfl, SqL.of hM, atI_nat hm, ?_⟩
    refine ⟨_, rfl, _, rfl, rfl, _, rfl, p, _, m, _, rfl, hm7, by omega, hp6, fun H7 vl psl Sl f7 hwl nSl l8 fpl okl hp7 => ?_⟩
    refine ⟨_, rfl, _, rfl, rfl, _, rfl, p, _, m, _, rfl, hm7, by omega, hp7, fun H8 vr psr Sr f8 hwr nSr r8 fpr okr hp8 => ?_⟩
    rw [Bool.not_not] at okl okr
    have pL7 : ∀ b ∈ [p], ∃ xs, H6 b = some (.lst xs) := hp6.lis
    have t7 := same_but t6 f7 pn
    have t8 := same_but t7 f8 pn
    have pSl : p ∉ Sl := fun m => by
      obtain ⟨xs, q⟩ := hp6.lis p (.head _)
      rw [nSl p m] at q
      cases q
    have pSr : p ∉ Sr := fun m => by
      obtain ⟨xs, q⟩ := hp7.lis p (.head _)
      rw [nSr p m] at q
      cases q
    have hl8 := ow_draw hwl f8 hp7.lis pSl
    have hW8 : H8 W = some (.lst [.int ((w1 : Nat) : Int), .int ((w2 : Nat) : Int)]) := f8 _ _ (f7 _ _ hW6 fun m => neW (List.mem_singleton.mp m)) fun m => neW (List.mem_singleton.mp m)
    -- is_pattern tells which is one
    refine ⟨_, rfl, vl, patD psl, rfl, ow_dp hl8, pl_up (pl_pat fpl) (by decide), fun H9 u9 S9 s9 hu9 nS9 => ⟨u9, psl, rfl, ow_dp hu9, fpl, fun H10 s10 => ⟨_, rfl, rfl, ?_⟩⟩⟩
    rw [okl]
    refine ⟨_, _, .bool (decide (V.int ((bd : Nat) : Int) = V.int 1)), rfl, .bl _, .bl _, .inl (.inr (.inl ⟨_, rfl⟩)), fun H11 s11 => ⟨_, rfl, if_no rfl ?_⟩⟩
    have q11 := (s9.trans s10).trans s11
    have hr11 := ow_same q11 hwr
    refine ⟨_, rfl, vr, patD psr, rfl, ow_dp hr11, pl_up (pl_pat fpr) (by decide), fun H12 u12 S12 s12 hu12 nS12 => ⟨u12, psr, rfl, ow_dp hu12, fpr, fun H13 s13 => ⟨_, rfl, rfl, ?_⟩⟩⟩
    rw [okr]
    refine ⟨_, _, .bool (decide (V.int ((bd : Nat) : Int) = V.int 0)), rfl, .bl _, .bl _, .inl (.inr (.inl ⟨_, rfl⟩)), fun H14 s14 => ⟨_, rfl, if_no rfl ?_⟩⟩
    have q14 := q11.trans ((s12.trans s13).trans s14)
    have hl14 := ow_same q14 hl8
    have hr14 := ow_same q14 hwr
    have hp14 := hp8.same q14
    have t14 := t8.trans q14
    have hW14 := q14 _ _ hW8
    -- the first that is none
    obtain ⟨wv, wps, Sw, hat, hw14, okw, fpw, fb⟩ : ∃ (wv : V) (wps : List Pd) (Sw : List Addr), atI [vl, vr] (if decide (V.int ((bd : Nat) : Int) = V.int 1) = true then 1 else 0) = some wv ∧ Ow K H14 wv (patD wps) Sw ∧ okPs wps = false ∧ finePs wps ∧ FB [psl, psr] wps := by
      by_cases e1 : bd = 1
      · subst e1
        have e2 : decide (V.int ((1 : Nat) : Int) = V.int 1) = true := decide_eq_true rfl
        have e3 : decide (V.int ((1 : Nat) : Int) = V.int 0) = false := decide_eq_false fun z => by have := V.int.inj z; omega
        rw [e2] at okl ⊢
        rw [e3] at okr
        exact ⟨vr, psr, Sr, rfl, hr14, okr, fpr, 1, rfl, okr, fun j hj qs hq => by
          have : j = 0 := by omega
          subst this
          obtain rfl := Option.some.inj hq
          exact okl⟩
      · have e2 : decide (V.int ((bd : Nat) : Int) = V.int 1) = false := decide_eq_false fun z => e1 (by have := V.int.inj z; omega)
        rw [e2] at okl ⊢
        exact ⟨vl, psl, Sl, rfl, hl14, okl, fpl, 0, rfl, okl, fun j hj => by omega⟩
    refine ⟨_, rfl, _, rfl, (by decide : 2 ≤ sizeLine), fun L nL => ⟨_, rfl, rfl, .inr ⟨_, rfl, L, _, _, wv, rfl, rfl, SqL.of upd_same, hat, ?_⟩⟩⟩
    have sL := same_upd (o := .lst [vl, vr]) nL
    have hl15 := ow_same sL hl14
    have hr15 := ow_same sL hr14
    have hw15 := ow_same sL hw14
    have hp15 := hp14.same sL
    have t15 := t14.trans sL
    have hW15 := sL _ _ hW14
    generalize L2.upd H14 L (.lst [vl, vr]) = H15 at hl15 hr15 hw15 hp15 t15 hW15 ⊢
    have l5 : Pl 5 (patD wps) := pl_up (pl_pat fpw) (by decide)
    refine ⟨_, rfl, wv, patD wps, rfl, ow_dp hw15, pl_up (pl_pat fpw) (by decide), fun H16 u1 S1 s16 hu1 nS1 => ?_⟩
    refine ⟨_, rfl, W, _, _, _, rfl, rfl, SqL.of (s16 _ _ hW15), rfl, _, rfl, _, u1, wps, rfl, ow_dp hu1, fpw, okw, fun H17 e u' T s17 he hu' nT => ?_⟩
    refine ⟨_, rfl, _, rfl, e, wv, u1, u', patD wps, patD wps, S1, T, H15, rfl, he, hu', ow_same s17 hu1, fun b m z => ?_, s16.trans s17, nS1, ow_dp hw15, l5, pl_up (pl_pat fpw) (by decide), fun H18 b18 => ⟨_, rfl, if_no rfl ?_⟩⟩
    · obtain ⟨ys, q⟩ := ow_lis hu1 b z
      rw [nT b m] at q
      cases q
    have q17 := s16.trans s17
    have l17 : Lis S1 H17 := ow_lis (ow_same s17 hu1)
    have hl18 := ow_apart (ow_same q17 hl15) hl15 b18 l17 nS1
    have hr18 := ow_apart (ow_same q17 hr15) hr15 b18 l17 nS1
    have hw18 := ow_apart (ow_same q17 hw15) hw15 b18 l17 nS1
    have out18 : ∀ (c : Addr) (o : HO), H15 c = some o → H18 c = some o := same_but q17 b18 nS1
    have hp18 := hp15.same out18
    have t18 := t15.trans out18
    have hW18 := out18 _ _ hW15
    refine ⟨_, rfl, vl, patD psl, rfl, ow_dp hl18, pl_up (pl_pat fpl) (by decide), fun H19 u2 S2 s19 hu2 nS2 => ?_⟩
    refine ⟨_, rfl, vr, patD psr, rfl, dp_same s19 (ow_dp hr18), pl_up (pl_pat fpr) (by decide), fun H20 u3 S3 s20 hu3 nS3 => ⟨(by decide : 2 ≤ sizeLine), fun Z nZ => ?_⟩⟩
    have sZ := same_upd (o := .lst [u2, u3]) nZ
    have lis2 := ow_lis hu2
    have hZ : Ow K (L2.upd H20 Z (.lst [u2, u3])) (.ref Z) (.list [patD psl, patD psr]) (Z :: (S2 ++ (S3 ++ []))) := by
      refine .lst upd_same (.cons (ow_same (s20.trans sZ) hu2) (.cons (ow_same sZ hu3) .nil (fun _ _ m => by cases m)) (fun b m z => ?_)) (fun m => ?_)
      · simp at z
        obtain ⟨ys, q⟩ := lis2 b m
        rw [nS3 b z] at q
        cases q
      · simp at m
        have : ∃ ys, H20 Z = some (.lst ys) := by
          rcases m with m | m
          · obtain ⟨ys, q⟩ := lis2 Z m
            exact ⟨ys, s20 _ _ q⟩
          · exact ow_lis hu3 Z m
        obtain ⟨ys, q⟩ := this
        rw [nZ] at q
        cases q
    have nSZ : ∀ b ∈ Z :: (S2 ++ (S3 ++ [])), H18 b = none := fun b m => by
      simp at m
      rcases m with rfl | m | m
      · exact (s19.trans s20).free nZ
      · exact nS2 b m
      · exact s19.free (nS3 b m)
    have q20 := (s19.trans s20).trans sZ
    have hZ2 : (L2.upd H20 Z (.lst [u2, u3])) Z = some (.lst [u2, u3]) := upd_same
    have du2 := ow_dp (ow_same (s20.trans sZ) hu2)
    have du3 := ow_dp (ow_same sZ hu3)
    generalize L2.upd H20 Z (.lst [u2, u3]) = H21 at hZ q20 hZ2 du2 du3 ⊢
    refine ⟨_, rfl, W, _, _, _, rfl, rfl, SqL.of (q20 _ _ hW18), rfl, _, rfl, Z, _, _, _, rfl, rfl, SqL.of hZ2, rfl, _, rfl, Z, _, _, _, rfl, rfl, SqL.of hZ2, rfl, _, u2, u3, psl, psr, rfl, du2, du3, fpl, fpr, wps, fb, fun H22 e2 u'' T2 s22 he2 hu'' nT2 => ?_⟩
    have pZ : Pl 6 (.list [patD psl, patD psr]) := .inr ⟨_, .inl rfl, (by decide : 2 ≤ 1000), fun d m => by
      rcases List.mem_cons.mp m with rfl | m
      · exact pl_up (pl_pat fpl) (by decide)
      · rcases List.mem_singleton.mp m with rfl
        exact pl_up (pl_pat fpr) (by decide)⟩
    refine ⟨_, rfl, _, rfl, e2, wv, .ref Z, u'', patD wps, .list [patD psl, patD psr], Z :: (S2 ++ (S3 ++ [])), T2, H18, rfl, he2, hu'', ow_same s22 hZ, fun b m z => ?_, q20.trans s22, nSZ, ow_dp hw18, l5, pZ, fun H23 b23 => ⟨_, rfl, if_no rfl ?_⟩⟩
    · obtain ⟨ys, q⟩ := ow_lis hZ b z
      rw [nT2 b m] at q
      cases q
    have out23 : Same H18 H23 := same_but (q20.trans s22) b23 nSZ
    have hp23 := hp18.same out23
    have t23 := t18.trans out23
    refine ⟨_, rfl, p, _, rfl, by omega, hp23, fun H24 f24 => ⟨_, rfl, if_no rfl ?_⟩⟩
    exact ⟨⟨_, _, _, _, _, _, _, _, _, rfl⟩, (same_but t23 f24 pn).seq hq1⟩
end
end Qb
end PySem
namespace PySem
namespace Qb
open PySem.W PySem.Calls PyProof.Rows L2
/-- the law is called over the script: what the body needs is laid out -/
theorem law_at {P : Program} {w : World} {K : Frag} {mg mb : Str → Option Value} {fa a : Addr} {s : Shared} {vs : List Value} {ns : List Int}
    (KX : K.In s.heap) (hns : s.heap.Ns mainGlobals mg) (hb : s.heap.Ns builtinsNs mb) (hbb : ∀ x : Str, x ≠ "__name__" → mb x = bootBuiltins x) (lim : s.heap.NoLimit) (hg : s.gens = #[])
    (ha : s.heap.get? a = some { cls := .type "list", data := .seq vs.toArray }) (hi : IntsAre vs ns) (hl : ns.length ≤ sizeLine)
    (run : ∀ (base : Heap) (H : Hp), K.In base → base.Ns mainGlobals mg → Env0 P w K mg base callerA [] s H → SqL K H a (ns.map V.int) →
      codeAny (model P w) callerA (.call (.ref fa) ⟨[.ref a], []⟩) (CR CX0 [] P w H s (fun v _ => v = .bl true) E0) s) :
    codeAny (model P w) callerA (.call (.ref fa) ⟨[.ref a], []⟩) (fun r s' => r = .ok (.ret (.bool true)) ∧ OldK s.heap s'.heap ∧ s'.os = s.os ∧ AllBare s'.gens) s := by
  have rel := vals_ints hi
  have many := hi.length
  -- the script is tracked, as a thing that is known, where it is none of the module's own
  obtain ⟨H, hH⟩ : ∃ H : Hp, ∀ b, H b = if b = a ∧ K.lookup a = none then some (.frz { cls := .type "list", data := .seq vs.toArray } (.lst (ns.map V.int))) else none := ⟨_, fun _ => rfl⟩
  have only : ∀ b u, H b = some u → b = a ∧ K.lookup a = none ∧ u = .frz { cls := .type "list", data := .seq vs.toArray } (.lst (ns.map V.int)) := fun b u z => by
    rw [hH] at z
    by_cases c : b = a ∧ K.lookup a = none
    · rw [if_pos c] at z
      exact ⟨c.1, c.2, (Option.some.inj z).symm⟩
    · rw [if_neg c] at z
      cases z
  have sq : SqL K H a (ns.map V.int) := by
    cases hk : K.lookup a with
    | none => exact .inl (.inr ⟨_, by rw [hH]; exact if_pos ⟨rfl, hk⟩⟩)
    | some o =>
      have e := KX a o hk
      rw [ha] at e
      cases e
      exact .inr ⟨_, vs.toArray, _, hk, rfl, rfl, rfl, by rw [List.size_toArray, many]; exact hl, by simpa using rel⟩
  have ok : HOk P w H s.heap := fun b u z => by
    obtain ⟨rfl, _, rfl⟩ := only b u z
    exact ⟨ha, by rw [List.length_map]; exact hl, vs, _, rel, ha⟩
  have kept : ∀ b o, s.heap.get? b = some o → H b = none → (hidT s.heap H).get? b = some o := fun b o z n => hidT_get z n
  have baseK : K.In (hidT s.heap H) := fun b o z => kept b o (KX b o z) (by
    cases q : H b with
    | none => rfl
    | some u =>
      obtain ⟨rfl, n, _⟩ := only b u q
      rw [n] at z
      cases z)
  have baseN : ∀ (b : Addr) (m : Str → Option Value), s.heap.Ns b m → (hidT s.heap H).Ns b m := fun b m ⟨o, es, ep, z, d, r⟩ => ⟨o, es, ep, kept b o z (by
    cases q : H b with
    | none => rfl
    | some u =>
      obtain ⟨rfl, _, _⟩ := only b u q
      rw [ha] at z
      cases z
      cases d), d, r⟩
  have env : Env0 P w K mg (hidT s.heap H) callerA [] s H := {
    frames := rfl
    mod := ⟨baseK, baseN _ _ hns, ⟨mb, baseN _ _ hb, hbb⟩, let ⟨m, z1, z2⟩ := lim; ⟨m, baseN _ _ z1, z2⟩⟩
    bs := fun b o z => of_hidT z
    bsz := Nat.le_of_eq (hidT_size _ _)
    funs := trivial
    frf := fun b z => nomatch z
    hok := ok
    bare := .of_eq hg }
  refine codeAny_mono (run _ H baseK (baseN _ _ hns) env sq) fun r s' z => ?_
  cases r with
  | error e => exact z.elim
  | ok fl =>
    cases fl with
    | ret u =>
      obtain ⟨v, H', h1, h2, h3, h4, h5, h6⟩ := z
      obtain rfl : v = .bl true := h6
      obtain rfl : u = Value.bool true := h5
      refine ⟨rfl, OldK.of_keep fun b o y => ?_, h1, h2⟩
      cases q : H b with
      | none => exact h3.keep b o y q (fun z => nomatch z) (fun z => nomatch z)
      | some t =>
        obtain ⟨rfl, _, rfl⟩ := only b t q
        have q2 := h3.frzs _ _ _ q
        obtain ⟨g1, _⟩ := h4 _ _ q2
        rw [ha] at y
        cases y
        exact g1
    | next => exact z.elim
    | brk => exact z.elim
    | cont => exact z.elim
theorem glob_mk {K : Frag} {mg : Str → Option Value} {h : Heap} {x c d : Str} {t : Tok} (X : K.In h) (G : h.Ns mainGlobals mg) (a : nsIn K mainGlobals x = some (some (.str c t))) (e : c = d) : ∃ t, mg x = some (.str d t) := ⟨t, e ▸ mg_of X G a⟩
/-- the law holds, by what the text's top has left -/
theorem law_holds {P : Program} {w : World} {K : Frag} {mg mb : Str → Option Value} {s : Shared} {fa a : Addr} {vs : List Value} {ns : List Int} {f0 f1 f2 f3 f4 f5 f6 f7 f8 f9 f10 f11 f12 f13 f14 f15 f16 f17 f18 f19 f20 f21 f22 f23 f24 f25 f26 f27 f28 f29 f30 f31 f32 f33 f34 CP CT CS : Addr} {d0 d1 d2 d3 d4 d5 d6 d7 d8 d9 d10 d11 d12 d13 d14 d15 d16 d17 d18 d19 d20 d21 d22 d23 d24 d25 d26 d27 d28 d29 d30 d31 d32 d33 d34 : FuncData} {mP mT mS : List Value}
    (KX : K.In s.heap) (hns : s.heap.Ns mainGlobals mg) (hb : s.heap.Ns builtinsNs mb) (hbb : ∀ x : Str, x ≠ "__name__" → mb x = bootBuiltins x) (lim : s.heap.NoLimit) (hg : s.gens = #[])
    (ha : s.heap.get? a = some { cls := .type "list", data := .seq vs.toArray }) (hi : IntsAre vs ns) (hl : ns.length ≤ 63)
    (W : Wrt mg) (B : Blt mg) (EGi : EG K f0)
    (TP : EC K mg f0 "InvalidPattern" CP mP)
    (TT : EC K mg f0 "InvalidTree" CT mT)
    (TS : EC K mg f0 "ShellError" CS mS)
    (hPS : (Value.ref CP :: mP).contains (.ref CS) = true)
    (hPT : (Value.ref CP :: mP).contains (.ref CT) = false)
    (F0 : Fun K "__init__" "ShellError.__init__" sIn f0 d0) 
    (F1 : Fun K "is_sign" "is_sign" sSg f1 d1) (g1 : mg "is_sign" = some (.ref f1))
    (F2 : Fun K "is_range" "is_range" sRg f2 d2) (g2 : mg "is_range" = some (.ref f2))
    (F3 : Fun K "is_pattern_piece" "is_pattern_piece" sPp f3 d3) (g3 : mg "is_pattern_piece" = some (.ref f3))
    (F4 : Fun K "is_pattern" "is_pattern" sPa f4 d4) (g4 : mg "is_pattern" = some (.ref f4))
    (F5 : Fun K "fresh" "fresh" sFr f5 d5) (g5 : mg "fresh" = some (.ref f5))
    (F6 : Fun K "check_patterns" "check_patterns" sCp f6 d6) (g6 : mg "check_patterns" = some (.ref f6))
    (F7 : Fun K "meets" "meets" sMe f7 d7) (g7 : mg "meets" = some (.ref f7))
    (F8 : Fun K "heads" "heads" sHe f8 d8) (g8 : mg "heads" = some (.ref f8))
    (F9 : Fun K "tails" "tails" sTa f9 d9) (g9 : mg "tails" = some (.ref f9))
    (F10 : Fun K "least_text" "least_text" sLt f10 d10) (g10 : mg "least_text" = some (.ref f10))
    (F11 : Fun K "shown_least" "shown_least" sSh f11 d11) (g11 : mg "shown_least" = some (.ref f11))
    (F12 : Fun K "within" "within" sWi f12 d12) (g12 : mg "within" = some (.ref f12))
    (F13 : Fun K "first_apart" "first_apart" sFa f13 d13) (g13 : mg "first_apart" = some (.ref f13))
    (F14 : Fun K "common" "common" sCm f14 d14) (g14 : mg "common" = some (.ref f14))
    (F15 : Fun K "same" "same" sSa f15 d15) (g15 : mg "same" = some (.ref f15))
    (F16 : Fun K "never_met" "never_met" sNm f16 d16) (g16 : mg "never_met" = some (.ref f16))
    (F17 : Fun K "unmet" "unmet" sUm f17 d17) (g17 : mg "unmet" = some (.ref f17))
    (F18 : Fun K "_law_same" "_law_same" sSm f18 d18) (g18 : mg "_law_same" = some (.ref f18))
    (F19 : Fun K "_law_own" "_law_own" sOw f19 d19) (g19 : mg "_law_own" = some (.ref f19))
    (F20 : Fun K "_law_spoil" "_law_spoil" sSl f20 d20) (g20 : mg "_law_spoil" = some (.ref f20))
    (F21 : Fun K "_law_purse" "_law_purse" sPu f21 d21) (g21 : mg "_law_purse" = some (.ref f21))
    (F22 : Fun K "_law_coin" "_law_coin" sCo f22 d22) (g22 : mg "_law_coin" = some (.ref f22))
    (F23 : Fun K "_law_signs" "_law_signs" sAl f23 d23) (g23 : mg "_law_signs" = some (.ref f23))
    (F24 : Fun K "_law_sign" "_law_sign" sSi f24 d24) (g24 : mg "_law_sign" = some (.ref f24))
    (F25 : Fun K "_law_ranges" "_law_ranges" sRa f25 d25) (g25 : mg "_law_ranges" = some (.ref f25))
    (F26 : Fun K "_law_entry" "_law_entry" sEn f26 d26) (g26 : mg "_law_entry" = some (.ref f26))
    (F27 : Fun K "_law_odd" "_law_odd" sOd f27 d27) (g27 : mg "_law_odd" = some (.ref f27))
    (F28 : Fun K "_law_row" "_law_row" sRo f28 d28) (g28 : mg "_law_row" = some (.ref f28))
    (F29 : Fun K "_law_asked_one" "_law_asked_one" sAo f29 d29) (g29 : mg "_law_asked_one" = some (.ref f29))
    (F30 : Fun K "_law_asked_two" "_law_asked_two" sAt f30 d30) (g30 : mg "_law_asked_two" = some (.ref f30))
    (F31 : Fun K "_law_asked_arms" "_law_asked_arms" sAa f31 d31) (g31 : mg "_law_asked_arms" = some (.ref f31))
    (F32 : Fun K "_law_is_refusal" "_law_is_refusal" sRf f32 d32) (g32 : mg "_law_is_refusal" = some (.ref f32))
    (F33 : Fun K "_law_arms_hold" "_law_arms_hold" sAh f33 d33) (g33 : mg "_law_arms_hold" = some (.ref f33))
    (F34 : Fun K "law" "law" sLw f34 d34) (g34 : mg "law" = some (.ref f34))
    (hfa : mg "law" = some (.ref fa)) : codeAny (model P w) callerA (.call (.ref fa) ⟨[.ref a], []⟩) (fun r s' => r = .ok (.ret (.bool true)) ∧ OldK s.heap s'.heap ∧ s'.os = s.os ∧ AllBare s'.gens) s := by
  have e := hfa.symm.trans g34
  cases e
  have b0 := F0.binds (ps := ["self", "value"]) fun _ _ _ _ _ _ us hl => match us, hl with | [_, _], _ => rfl
  have b1 := F1.binds (ps := ["text"]) fun _ _ _ _ _ _ us hl => match us, hl with | [_], _ => rfl
  have b2 := F2.binds (ps := ["told"]) fun _ _ _ _ _ _ us hl => match us, hl with | [_], _ => rfl
  have b3 := F3.binds (ps := ["piece"]) fun _ _ _ _ _ _ us hl => match us, hl with | [_], _ => rfl
  have b4 := F4.binds (ps := ["pattern"]) fun _ _ _ _ _ _ us hl => match us, hl with | [_], _ => rfl
  have b5 := F5.binds (ps := ["thing"]) fun _ _ _ _ _ _ us hl => match us, hl with | [_], _ => rfl
  have b6 := F6.binds (ps := ["patterns"]) fun _ _ _ _ _ _ us hl => match us, hl with | [_], _ => rfl
  have b7 := F7.binds (ps := ["pattern", "text"]) fun _ _ _ _ _ _ us hl => match us, hl with | [_, _], _ => rfl
  have b8 := F8.binds (ps := ["pattern", "text"]) fun _ _ _ _ _ _ us hl => match us, hl with | [_, _], _ => rfl
  have b9 := F9.binds (ps := ["pattern", "text"]) fun _ _ _ _ _ _ us hl => match us, hl with | [_, _], _ => rfl
  have b10 := F10.binds (ps := ["pattern"]) fun _ _ _ _ _ _ us hl => match us, hl with | [_], _ => rfl
  have b11 := F11.binds (ps := ["pattern"]) fun _ _ _ _ _ _ us hl => match us, hl with | [_], _ => rfl
  have b12 := F12.binds (ps := ["one", "other"]) fun _ _ _ _ _ _ us hl => match us, hl with | [_, _], _ => rfl
  have b13 := F13.binds (ps := ["one", "other"]) fun _ _ _ _ _ _ us hl => match us, hl with | [_, _], _ => rfl
  have b14 := F14.binds (ps := ["one", "other"]) fun _ _ _ _ _ _ us hl => match us, hl with | [_, _], _ => rfl
  have b15 := F15.binds (ps := ["one", "other"]) fun _ _ _ _ _ _ us hl => match us, hl with | [_, _], _ => rfl
  have b16 := F16.binds (ps := ["arms"]) fun _ _ _ _ _ _ us hl => match us, hl with | [_], _ => rfl
  have b17 := F17.binds (ps := ["arms"]) fun _ _ _ _ _ _ us hl => match us, hl with | [_], _ => rfl
  have b18 := F18.binds (ps := ["_law_found", "_law_due"]) fun _ _ _ _ _ _ us hl => match us, hl with | [_, _], _ => rfl
  have b19 := F19.binds (ps := ["_law_thing"]) fun _ _ _ _ _ _ us hl => match us, hl with | [_], _ => rfl
  have b20 := F20.binds (ps := ["_law_thing"]) fun _ _ _ _ _ _ us hl => match us, hl with | [_], _ => rfl
  have b21 := F21.binds (ps := ["_law_script", "_law_at"]) fun _ _ _ _ _ _ us hl => match us, hl with | [_, _], _ => rfl
  have b22 := F22.binds (ps := ["_law_purse_here", "_law_many"]) fun _ _ _ _ _ _ us hl => match us, hl with | [_, _], _ => rfl
  have b23 := F23.binds (ps := []) fun _ _ _ _ _ _ us hl => match us, hl with | [], _ => rfl
  have b24 := F24.binds (ps := ["_law_purse_here"]) fun _ _ _ _ _ _ us hl => match us, hl with | [_], _ => rfl
  have b25 := F25.binds (ps := ["_law_purse_here"]) fun _ _ _ _ _ _ us hl => match us, hl with | [_], _ => rfl
  have b26 := F26.binds (ps := ["_law_purse_here"]) fun _ _ _ _ _ _ us hl => match us, hl with | [_], _ => rfl
  have b27 := F27.binds (ps := ["_law_purse_here"]) fun _ _ _ _ _ _ us hl => match us, hl with | [_], _ => rfl
  have b28 := F28.binds (ps := ["_law_purse_here", "_law_bad", "_law_most"]) fun _ _ _ _ _ _ us hl => match us, hl with | [_, _, _], _ => rfl
  have b29 := F29.binds (ps := ["_law_way", "_law_row_here"]) fun _ _ _ _ _ _ us hl => match us, hl with | [_, _], _ => rfl
  have b30 := F30.binds (ps := ["_law_way", "_law_left", "_law_right"]) fun _ _ _ _ _ _ us hl => match us, hl with | [_, _, _], _ => rfl
  have b31 := F31.binds (ps := ["_law_way", "_law_cases"]) fun _ _ _ _ _ _ us hl => match us, hl with | [_, _], _ => rfl
  have b32 := F32.binds (ps := ["_law_caught", "_law_due", "_law_passed"]) fun _ _ _ _ _ _ us hl => match us, hl with | [_, _, _], _ => rfl
  have b33 := F33.binds (ps := ["_law_purse_here"]) fun _ _ _ _ _ _ us hl => match us, hl with | [_], _ => rfl
  have bL : ∀ (s : Shared) (u : Value), BindsTo s d34 ⟨[u], []⟩ ((["_law_script"] : List Str).zip [u]) := by
    obtain ⟨oc, od, kV, doc, pm, an, cdv, ct, osl, rfl, lk, hcd⟩ := F34.ex
    exact fun s u => .of_eq rfl
  refine law_at KX hns hb hbb lim hg ha hi (Nat.le_trans hl (by decide)) fun base H hK hN env sq => ?_
  have oIn := ok_In (P := P) (mg := mg) (w := w) (base := base) F0
  have oSg := has_Sg (P := P) (w := w) (base := base) F1 g1 B W
  have oRg := has_Rg (P := P) (w := w) (base := base) F2 g2 B oSg
  have oPp := has_Pp (P := P) (w := w) (base := base) F3 g3 B oSg oRg
  have oPa := has_Pa (P := P) (w := w) (base := base) F4 g4 B oPp
  have oFr := has_of F5 g5 b5 (ok_Fr (P := P) (w := w) (base := base) F5 g5 b5 B 5)
  have oCp := has_Cp (P := P) (w := w) (base := base) EGi TP oIn b0 F6 g6 B oPa oFr
  have oMe := has_Me (P := P) (w := w) (base := base) F7 g7 B oCp
  have oHe := has_He (P := P) (w := w) (base := base) F8 g8 B oCp
  have oTa := has_Ta (P := P) (w := w) (base := base) F9 g9 B oCp
  have oLt := has_Lt (P := P) (w := w) (base := base) F10 g10 B oCp
  have oSh := has_Sh (P := P) (w := w) (base := base) F11 g11 B oCp
  have oWi := has_Wi (P := P) (w := w) (base := base) F12 g12 B oCp
  have oFa := has_Fa (P := P) (w := w) (base := base) F13 g13 B oCp
  have oCm := has_Cm (P := P) (w := w) (base := base) F14 g14 B oCp
  have oSa := has_Sa (P := P) (w := w) (base := base) F15 g15 B oFa
  have oNm := has_Nm (P := P) (w := w) (base := base) F16 g16 B oCp
  have oUm := has_Um (P := P) (w := w) (base := base) F17 g17 B oCp
  have oSm := has_of F18 g18 b18 (ok_Sm (P := P) (w := w) (base := base) F18 g18 b18 B 6)
  have oOw := has_of F19 g19 b19 (ok_Ow (P := P) (w := w) (base := base) F19 g19 b19 B 7)
  have oSl := has_of F20 g20 b20 (ok_Sl (P := P) (w := w) (base := base) F20 g20 b20 B 7)
  have oPu := has_Pu (P := P) (w := w) (base := base) F21 g21 B
  have oCo := has_Co (P := P) (w := w) (base := base) F22 g22 B
  have oAl := has_Al (P := P) (w := w) (base := base) F23 g23 B
  have oSi := has_Si (P := P) (w := w) (base := base) F24 g24 B oCo oAl
  have oRa := has_Ra (P := P) (w := w) (base := base) F25 g25 B oCo oAl
  have oEn := has_En (P := P) (w := w) (base := base) F26 g26 B oCo oSi oRa
  have oOd := has_Od (P := P) (w := w) (base := base) F27 g27 B oCo oAl oRa
  have oRo := has_Ro (P := P) (w := w) (base := base) F28 g28 B oCo oEn oOd
  have oAo := has_Ao (P := P) (w := w) (base := base) EGi TS TP hPS F29 g29 B oMe oHe oTa oLt oSh
  have oAt := has_At (P := P) (w := w) (base := base) EGi TS TP hPS F30 g30 B oSa oWi oFa oCm
  have oAa := has_Aa (P := P) (w := w) (base := base) EGi TS TP hPS F31 g31 B oNm oUm
  have oRf := has_Rf (P := P) (w := w) (base := base) EGi TP TT hPT F32 g32 B oSm oSl
  have oAh := has_Ah (P := P) (w := w) (base := base) F33 g33 B oCo oRo oOw oAa oRf
  have hr : Room 13 callerA := ⟨rfl, by decide, by decide⟩
  exact (ok_Lw F34 g34 B oPu oCo oRo oSm oPa oOw oRf oAo oAt oAh).run callerA [] s H ⟨[.ref a], []⟩ [.ref a] [.ref a] (fun v _ => v = V.bl true) E0 hr env (bL s (.ref a)) (.cons rfl .nil) ⟨a, ns, rfl, sq, hl, fun _ => rfl⟩
end Qb
end PySem
open PySem PySem.W PyProof.Rows
set_option maxRecDepth 100000 in
set_option maxHeartbeats 0 in
theorem PySem.Challenge.cw_quotedback_k22_no_patterns_holds : PySem.Challenge.rw_quotedback_k22_no_patterns.Holds := by
  w_on; o_law; k_head; (case hw => w_witness2)
  k_fill
  refine Att.attach_call (l := PySem.Challenge.rw_quotedback_k22_no_patterns) (n := 63) rfl rfl ?F
  case F =>
    intro w s₀ s₁ mg mb fa o pm cd doc a vs ns G Y ho hd hcd hmg hobj hints hlen hg
    have KX := kIn_of Y
    refine' PySem.Qb.law_holds KX G.T.g G.T.b G.T.builtins G.T.nolimit hg hobj hints hlen
      ⟨PySem.Qb.glob_mk KX G.T.g ?s0 ?e0⟩
      ⟨mg_none_of KX G.T.g ?y0, mg_none_of KX G.T.g ?y1, mg_none_of KX G.T.g ?y2, mg_none_of KX G.T.g ?y3, mg_none_of KX G.T.g ?y4, mg_none_of KX G.T.g ?y5, mg_none_of KX G.T.g ?y6, mg_none_of KX G.T.g ?y7, mg_none_of KX G.T.g ?y8, mg_none_of KX G.T.g ?y9, mg_none_of KX G.T.g ?y10, mg_none_of KX G.T.g ?y11, mg_none_of KX G.T.g ?y12, mg_none_of KX G.T.g ?y13⟩
      ⟨?tI, ?hn, ?ht⟩
      (PySem.Qb.ec_mk KX G.T.g ?aP ?lP ?rP ?saP ?gaP ?ggP ?noP ?iCP ?kCP ?ccP)
      (PySem.Qb.ec_mk KX G.T.g ?aT ?lT ?rT ?saT ?gaT ?ggT ?noT ?iCT ?kCT ?ccT)
      (PySem.Qb.ec_mk KX G.T.g ?aS ?lS ?rS ?saS ?gaS ?ggS ?noS ?iCS ?kCS ?ccS)
      ?facthPS
      ?facthPT
      (L2.fun_mk ?lf0 ?cf0 ?kf0) 
      (L2.fun_mk ?lf1 ?cf1 ?kf1) (mg_of KX G.T.g ?af1)
      (L2.fun_mk ?lf2 ?cf2 ?kf2) (mg_of KX G.T.g ?af2)
      (L2.fun_mk ?lf3 ?cf3 ?kf3) (mg_of KX G.T.g ?af3)
      (L2.fun_mk ?lf4 ?cf4 ?kf4) (mg_of KX G.T.g ?af4)
      (L2.fun_mk ?lf5 ?cf5 ?kf5) (mg_of KX G.T.g ?af5)
      (L2.fun_mk ?lf6 ?cf6 ?kf6) (mg_of KX G.T.g ?af6)
      (L2.fun_mk ?lf7 ?cf7 ?kf7) (mg_of KX G.T.g ?af7)
      (L2.fun_mk ?lf8 ?cf8 ?kf8) (mg_of KX G.T.g ?af8)
      (L2.fun_mk ?lf9 ?cf9 ?kf9) (mg_of KX G.T.g ?af9)
      (L2.fun_mk ?lf10 ?cf10 ?kf10) (mg_of KX G.T.g ?af10)
      (L2.fun_mk ?lf11 ?cf11 ?kf11) (mg_of KX G.T.g ?af11)
      (L2.fun_mk ?lf12 ?cf12 ?kf12) (mg_of KX G.T.g ?af12)
      (L2.fun_mk ?lf13 ?cf13 ?kf13) (mg_of KX G.T.g ?af13)
      (L2.fun_mk ?lf14 ?cf14 ?kf14) (mg_of KX G.T.g ?af14)
      (L2.fun_mk ?lf15 ?cf15 ?kf15) (mg_of KX G.T.g ?af15)
      (L2.fun_mk ?lf16 ?cf16 ?kf16) (mg_of KX G.T.g ?af16)
      (L2.fun_mk ?lf17 ?cf17 ?kf17) (mg_of KX G.T.g ?af17)
      (L2.fun_mk ?lf18 ?cf18 ?kf18) (mg_of KX G.T.g ?af18)
      (L2.fun_mk ?lf19 ?cf19 ?kf19) (mg_of KX G.T.g ?af19)
      (L2.fun_mk ?lf20 ?cf20 ?kf20) (mg_of KX G.T.g ?af20)
      (L2.fun_mk ?lf21 ?cf21 ?kf21) (mg_of KX G.T.g ?af21)
      (L2.fun_mk ?lf22 ?cf22 ?kf22) (mg_of KX G.T.g ?af22)
      (L2.fun_mk ?lf23 ?cf23 ?kf23) (mg_of KX G.T.g ?af23)
      (L2.fun_mk ?lf24 ?cf24 ?kf24) (mg_of KX G.T.g ?af24)
      (L2.fun_mk ?lf25 ?cf25 ?kf25) (mg_of KX G.T.g ?af25)
      (L2.fun_mk ?lf26 ?cf26 ?kf26) (mg_of KX G.T.g ?af26)
      (L2.fun_mk ?lf27 ?cf27 ?kf27) (mg_of KX G.T.g ?af27)
      (L2.fun_mk ?lf28 ?cf28 ?kf28) (mg_of KX G.T.g ?af28)
      (L2.fun_mk ?lf29 ?cf29 ?kf29) (mg_of KX G.T.g ?af29)
      (L2.fun_mk ?lf30 ?cf30 ?kf30) (mg_of KX G.T.g ?af30)
      (L2.fun_mk ?lf31 ?cf31 ?kf31) (mg_of KX G.T.g ?af31)
      (L2.fun_mk ?lf32 ?cf32 ?kf32) (mg_of KX G.T.g ?af32)
      (L2.fun_mk ?lf33 ?cf33 ?kf33) (mg_of KX G.T.g ?af33)
      (L2.fun_mk ?lf34 ?cf34 ?kf34) (mg_of KX G.T.g ?af34) hmg
    (case s0 => k_is)
    (case y0 => k_is)
    (case y1 => k_is)
    (case y2 => k_is)
    (case y3 => k_is)
    (case y4 => k_is)
    (case y5 => k_is)
    (case y6 => k_is)
    (case y7 => k_is)
    (case y8 => k_is)
    (case y9 => k_is)
    (case y10 => k_is)
    (case y11 => k_is)
    (case y12 => k_is)
    (case y13 => k_is)
    (case aP => k_is)
    (case lP => k_is)
    (case rP => first | rfl | decide +kernel)
    (case saP => k_is)
    (case gaP => k_is)
    (case ggP => k_is)
    (case noP => k_is)
    (case iCP => k_is)
    (case kCP => k_is)
    (case ccP => k_is)
    (case aT => k_is)
    (case lT => k_is)
    (case rT => first | rfl | decide +kernel)
    (case saT => k_is)
    (case gaT => k_is)
    (case ggT => k_is)
    (case noT => k_is)
    (case iCT => k_is)
    (case kCT => k_is)
    (case ccT => k_is)
    (case aS => k_is)
    (case lS => k_is)
    (case rS => first | rfl | decide +kernel)
    (case saS => k_is)
    (case gaS => k_is)
    (case ggS => k_is)
    (case noS => k_is)
    (case iCS => k_is)
    (case kCS => k_is)
    (case ccS => k_is)
    (case tI => k_is)
    (case hn => k_is)
    (case ht => k_is)
    (case lf0 => k_is)
    (case cf0 => k_is)
    (case kf0 => k_is)
    (case af1 => k_is)
    (case lf1 => k_is)
    (case cf1 => k_is)
    (case kf1 => k_is)
    (case af2 => k_is)
    (case lf2 => k_is)
    (case cf2 => k_is)
    (case kf2 => k_is)
    (case af3 => k_is)
    (case lf3 => k_is)
    (case cf3 => k_is)
    (case kf3 => k_is)
    (case af4 => k_is)
    (case lf4 => k_is)
    (case cf4 => k_is)
    (case kf4 => k_is)
    (case af5 => k_is)
    (case lf5 => k_is)
    (case cf5 => k_is)
    (case kf5 => k_is)
    (case af6 => k_is)
    (case lf6 => k_is)
    (case cf6 => k_is)
    (case kf6 => k_is)
    (case af7 => k_is)
    (case lf7 => k_is)
    (case cf7 => k_is)
    (case kf7 => k_is)
    (case af8 => k_is)
    (case lf8 => k_is)
    (case cf8 => k_is)
    (case kf8 => k_is)
    (case af9 => k_is)
    (case lf9 => k_is)
    (case cf9 => k_is)
    (case kf9 => k_is)
    (case af10 => k_is)
    (case lf10 => k_is)
    (case cf10 => k_is)
    (case kf10 => k_is)
    (case af11 => k_is)
    (case lf11 => k_is)
    (case cf11 => k_is)
    (case kf11 => k_is)
    (case af12 => k_is)
    (case lf12 => k_is)
    (case cf12 => k_is)
    (case kf12 => k_is)
    (case af13 => k_is)
    (case lf13 => k_is)
    (case cf13 => k_is)
    (case kf13 => k_is)
    (case af14 => k_is)
    (case lf14 => k_is)
    (case cf14 => k_is)
    (case kf14 => k_is)
    (case af15 => k_is)
    (case lf15 => k_is)
    (case cf15 => k_is)
    (case kf15 => k_is)
    (case af16 => k_is)
    (case lf16 => k_is)
    (case cf16 => k_is)
    (case kf16 => k_is)
    (case af17 => k_is)
    (case lf17 => k_is)
    (case cf17 => k_is)
    (case kf17 => k_is)
    (case af18 => k_is)
    (case lf18 => k_is)
    (case cf18 => k_is)
    (case kf18 => k_is)
    (case af19 => k_is)
    (case lf19 => k_is)
    (case cf19 => k_is)
    (case kf19 => k_is)
    (case af20 => k_is)
    (case lf20 => k_is)
    (case cf20 => k_is)
    (case kf20 => k_is)
    (case af21 => k_is)
    (case lf21 => k_is)
    (case cf21 => k_is)
    (case kf21 => k_is)
    (case af22 => k_is)
    (case lf22 => k_is)
    (case cf22 => k_is)
    (case kf22 => k_is)
    (case af23 => k_is)
    (case lf23 => k_is)
    (case cf23 => k_is)
    (case kf23 => k_is)
    (case af24 => k_is)
    (case lf24 => k_is)
    (case cf24 => k_is)
    (case kf24 => k_is)
    (case af25 => k_is)
    (case lf25 => k_is)
    (case cf25 => k_is)
    (case kf25 => k_is)
    (case af26 => k_is)
    (case lf26 => k_is)
    (case cf26 => k_is)
    (case kf26 => k_is)
    (case af27 => k_is)
    (case lf27 => k_is)
    (case cf27 => k_is)
    (case kf27 => k_is)
    (case af28 => k_is)
    (case lf28 => k_is)
    (case cf28 => k_is)
    (case kf28 => k_is)
    (case af29 => k_is)
    (case lf29 => k_is)
    (case cf29 => k_is)
    (case kf29 => k_is)
    (case af30 => k_is)
    (case lf30 => k_is)
    (case cf30 => k_is)
    (case kf30 => k_is)
    (case af31 => k_is)
    (case lf31 => k_is)
    (case cf31 => k_is)
    (case kf31 => k_is)
    (case af32 => k_is)
    (case lf32 => k_is)
    (case cf32 => k_is)
    (case kf32 => k_is)
    (case af33 => k_is)
    (case lf33 => k_is)
    (case cf33 => k_is)
    (case kf33 => k_is)
    (case af34 => k_is)
    (case lf34 => k_is)
    (case cf34 => k_is)
    (case kf34 => k_is)
    (case e0 => first | rfl | decide +kernel)
    (case facthPS => first | rfl | decide +kernel)
    (case facthPT => first | rfl | decide +kernel)
